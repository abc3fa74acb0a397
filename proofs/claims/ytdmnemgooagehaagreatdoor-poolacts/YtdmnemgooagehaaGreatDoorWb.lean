/- An allocator in memory, and the contracts of package buddy's small functions. · Contracts of Left, Greatest, leastFree. · Contracts of Take, Give and Order. · The contract of sortByAddress: the library's slices.SortFunc at blocks. · Contracts of Free and Used. · The contract of buddy.New. · The function alive, by which every law begins. · Lists of blocks as read, and the contract of cover. · What came in as a list of acts; the table of math/bits as the rows list it, and a world that holds both tables; Take and Give of whatever number. -/
import Derived.Test.YtdmnemgooagehaaGreatDoorWa
import Derived.Maps.OwnSet
import Derived.Maps.RangeWalk
import Derived.Deep.MidRow
import Derived.Shelf.SlSortCmp.NoneTotal
import Derived.Laws.OwnMore
import Derived.Sort.OwnSorted
import Derived.ProofKit
import Derived.OpenShut
import Derived.ShutString
import Derived.ChangeOld
import Derived.Deep.DeepHandedRow
import Derived.Lib.LaidTab
import Derived.Deep.Slices
import Derived.Stop.LaidErr
namespace Go.Proofs.YtdmnemgooagehaaGreatDoor
open Go.RowKit Go.Maps

/-- All blocks that were there, but for some, are as they were. -/
structure Turn (S : Nat → Prop) (w w' : World) : Prop where
  os : w'.os = w.os
  tape : w'.tape = w.tape
  output : w'.output = w.output
  size : w.heap.size ≤ w'.heap.size
  block : ∀ k, k < w.heap.size → ¬ S k → w'.heap[k]? = w.heap[k]?
theorem Turn.refl (S : Nat → Prop) (w : World) : Turn S w w := ⟨rfl, rfl, rfl, Nat.le_refl _, fun _ _ _ => rfl⟩
theorem Turn.trans {S : Nat → Prop} {a b c : World} (h : Turn S a b) (k : Turn S b c) : Turn S a c :=
  ⟨k.os.trans h.os, k.tape.trans h.tape, k.output.trans h.output, Nat.le_trans h.size k.size, fun i hi hg => (k.block i (Nat.lt_of_lt_of_le hi h.size) hg).trans (h.block i hi hg)⟩
theorem Turn.of_below {S : Nat → Prop} {w w' : World} (h : Below w.heap.size w w') : Turn S w w' := ⟨h.os, h.tape, h.output, h.size, fun k hk _ => h.block k hk⟩
theorem Turn.of_but {S : Nat → Prop} {w w' : World} {g : Nat} (h : But g w w') (hS : S g ∨ w.heap.size ≤ g) : Turn S w w' :=
  ⟨h.os, h.tape, h.output, h.size, fun k hk hn => h.block k hk (fun e => by subst e; rcases hS with h1 | h1; exact hn h1; omega)⟩
theorem Turn.drewN {S : Nat → Prop} {a w : World} (h : Turn S a w) (k : Nat) : Turn S a (w.drewN k) := ⟨h.os, h.tape, h.output, h.size, h.block⟩
theorem Turn.drew {S : Nat → Prop} {a w : World} (h : Turn S a w) : Turn S a w.drew := ⟨h.os, h.tape, h.output, h.size, h.block⟩
theorem Turn.alloc {S : Nat → Prop} {a w : World} (h : Turn S a w) (o : Obj) : Turn S a (w.alloc o) := h.trans (Turn.of_below ((Below.refl _ _).alloc (Nat.le_refl _) _))
theorem Turn.then {S : Nat → Prop} {a w w' : World} {g : Nat} (h : Turn S a w) (k : But g w w') (hS : S g ∨ w.heap.size ≤ g) : Turn S a w' := h.trans (Turn.of_but k hS)
theorem Below.of_turn {S : Nat → Prop} {Bd : Nat} {w0 w w' : World} (hb : Below Bd w0 w) (hB : Bd ≤ w.heap.size) (h : Turn S w w') (hS : ∀ k, S k → Bd ≤ k) : Below Bd w0 w' :=
  ⟨h.os.trans hb.os, h.tape.trans hb.tape, h.output.trans hb.output, Nat.le_trans hb.size h.size, fun k hk => (h.block k (by omega) (fun hs => by have := hS k hs; omega)).trans (hb.block k hk)⟩
theorem Turn.of_grown {S : Nat → Prop} {w w' : World} {r : Option Nat} (h : w.grownBy w' r) (hS : ∀ j, r = some j → S j ∨ w.heap.size ≤ j) : Turn S w w' :=
  ⟨h.os, h.tape, h.output, h.size, fun k hk hn => h.block k hk (fun e => by rcases hS k (by rw [← e]) with h1 | h1; exact hn h1; omega)⟩

theorem ownsMap_block {H : Type} {P : Program} {k : TypeId} {R : Value → Option (DataW H × List MemPlace)} {w w' : World} {b n : Nat} {D : DataW H} (h : w.ownsMap P k R b n D) (e : w'.heap[b]? = w.heap[b]?) : w'.ownsMap P k R b n D := by
  obtain ⟨es, clock, hb, r⟩ := h
  exact ⟨es, clock, by rw [e]; exact hb, r⟩

abbrev Umap (w : World) (m n : Nat) (D : DataW Unit) : Prop := w.ownsMap Tryz.prog 3 (plainElem (H := Unit) Tryz.prog 3) m n D
theorem law3 : Keyed Tryz.prog 3 := int_keyed Tryz.underlying3
theorem zero3 (w : World) : (zeroValue 3).run Tryz.prog w = .ok (.int .i64 0) w := by kernel_rfl

/-- Where a block begins. -/
def addr (k i : Nat) : Int := ((i * 2 ^ k * 1024 : Nat) : Int)
/-- The map has just the used blocks. -/
structure Has (D : DataW Unit) (B : St) : Prop where
  key : ∀ a : Int, Maps.has D (.int .i64 a) = true ↔ ∃ k i, B k i = .used ∧ a = addr k i
  val : ∀ k i, B k i = .used → ∀ z, D.atKey (.int .i64 (addr k i)) z = .lit (.int .i64 (k : Int))

def ptrOf (n : Nat) (bf : Nat → Nat) (k : Nat) : Value := if k < n then .pointer (some ⟨bf k, 0, none⟩) else .pointer none
def ptrs (n : Nat) (bf : Nat → Nat) : Array Value := Array.ofFn fun k : Fin 21 => ptrOf n bf k.val
def budCells (K n : Nat) (bf : Nat → Nat) (m : Nat) : Array Value := #[.int .i64 (K : Int)] ++ ptrs n bf ++ #[.map (some m)]

/-- The allocator of the order K at block p: its maps of free ones, its map of used ones at block m, of at most c. -/
structure Mem (w : World) (p m K : Nat) (bf gf : Nat → Nat) (B : St) (c : Nat) : Prop where
  head : w.heap[p]? = some (.cells (budCells K (K + 1) bf m) 106)
  maps : ∀ k, k ≤ K → ∃ ws, Bits w (bf k) (gf k) (2 ^ (K - k)) ws ∧ ∀ j, j < 2 ^ (K - k) → (bit ws j = true ↔ B k j = .free)
  used : ∃ n D, n ≤ c ∧ Umap w m n D ∧ Has D B
  small : K ≤ 20
  pm : p ≠ m
  bg : ∀ k k', k ≤ K → k' ≤ K → bf k ≠ gf k'
  gg : ∀ k k', k ≤ K → k' ≤ K → gf k = gf k' → k = k'
  gp : ∀ k, k ≤ K → gf k ≠ p
  gm : ∀ k, k ≤ K → gf k ≠ m
  bm : ∀ k, k ≤ K → bf k ≠ m

/-- What the allocator's calls may turn. -/
def Own (m K : Nat) (gf : Nat → Nat) : Nat → Prop := fun x => x = m ∨ ∃ k, k ≤ K ∧ x = gf k

theorem ptrs_size (n : Nat) (bf : Nat → Nat) : (ptrs n bf).size = 21 := by simp [ptrs]
theorem ptrs_get (n : Nat) (bf : Nat → Nat) (k : Nat) (h : k < 21) : (ptrs n bf)[k]? = some (ptrOf n bf k) := by simp [ptrs, h]
theorem budCells_size (K n : Nat) (bf : Nat → Nat) (m : Nat) : (budCells K n bf m).size = 23 := by simp [budCells, ptrs]
theorem budCells_ptr (K n : Nat) (bf : Nat → Nat) (m k : Nat) (h : k < 21) : (budCells K n bf m)[1 + k]? = some (ptrOf n bf k) := by
  unfold budCells
  rw [Array.getElem?_append_left (by simp [ptrs]; omega), Array.getElem?_append_right (by simp)]
  simp only [List.size_toArray, List.length_cons, List.length_nil, Nat.zero_add, Nat.add_sub_cancel_left]
  exact ptrs_get n bf k h
theorem budCells_map (K n : Nat) (bf : Nat → Nat) (m : Nat) : (budCells K n bf m)[22]? = some (.map (some m)) := by
  unfold budCells
  rw [Array.getElem?_append_right (by simp [ptrs])]
  simp [ptrs]

section
variable {w w' : World} {p m K : Nat} {bf gf : Nat → Nat} {B : St} {c : Nat}
theorem Mem.cK (h : Mem w p m K bf gf B c) : w.cell? ⟨p, 0, none⟩ = some (.int .i64 (K : Int)) := by
  rw [cell_of_row w p 0 _ _ _ h.head]
  unfold budCells
  rw [Array.getElem?_append_left (by simp [ptrs]), Array.getElem?_append_left (by simp)]
  rfl
theorem Mem.cptr (h : Mem w p m K bf gf B c) (k : Nat) (hk : k ≤ K) : w.cell? ⟨p, 1 + k, none⟩ = some (.pointer (some ⟨bf k, 0, none⟩)) := by
  rw [cell_of_row w p (1 + k) _ _ _ h.head, budCells_ptr _ _ _ _ _ (by have := h.small; omega), ptrOf, if_pos (by omega)]
theorem Mem.cmap (h : Mem w p m K bf gf B c) : w.cell? ⟨p, 22, none⟩ = some (.map (some m)) := by
  rw [cell_of_row w p 22 _ _ _ h.head, budCells_map]
theorem Mem.lp (h : Mem w p m K bf gf B c) : p < w.heap.size := (Array.getElem?_eq_some_iff.1 h.head).1
theorem Mem.lm (h : Mem w p m K bf gf B c) : m < w.heap.size := by
  obtain ⟨n, D, _, hU, _⟩ := h.used
  exact hU.lt
theorem Mem.lb (h : Mem w p m K bf gf B c) (k : Nat) (hk : k ≤ K) : bf k < w.heap.size ∧ gf k < w.heap.size := by
  obtain ⟨ws, hB, _⟩ := h.maps k hk
  exact hB.lt
theorem Mem.lown (h : Mem w p m K bf gf B c) {x : Nat} (hx : Own m K gf x) : x < w.heap.size := by
  rcases hx with rfl | ⟨k, hk, rfl⟩
  · exact h.lm
  · exact (h.lb k hk).2

/-- Other blocks may turn. -/
theorem Mem.other (h : Mem w p m K bf gf B c) (hb : ∀ x, x < w.heap.size → (x = p ∨ x = m ∨ ∃ k, k ≤ K ∧ (x = bf k ∨ x = gf k)) → w'.heap[x]? = w.heap[x]?) : Mem w' p m K bf gf B c := by
  refine ⟨by rw [hb p h.lp (.inl rfl)]; exact h.head, fun k hk => ?_, ?_, h.small, h.pm, h.bg, h.gg, h.gp, h.gm, h.bm⟩
  · obtain ⟨ws, hB, hw⟩ := h.maps k hk
    exact ⟨ws, ⟨by rw [hb _ hB.lt.1 (.inr (.inr ⟨k, hk, .inl rfl⟩))]; exact hB.head, by rw [hb _ hB.lt.2 (.inr (.inr ⟨k, hk, .inr rfl⟩))]; exact hB.body, hB.unlike, hB.small, hB.ok⟩, hw⟩
  · obtain ⟨n, D, hn, hU, hD⟩ := h.used
    exact ⟨n, D, hn, ownsMap_block hU (hb m hU.lt (.inr (.inl rfl))), hD⟩
theorem Mem.below (h : Mem w p m K bf gf B c) (hb : Below w.heap.size w w') : Mem w' p m K bf gf B c := h.other fun x hx _ => hb.block x hx
theorem Mem.drewN (h : Mem w p m K bf gf B c) (k : Nat) : Mem (w.drewN k) p m K bf gf B c := h.other fun _ _ _ => rfl
theorem Mem.drew (h : Mem w p m K bf gf B c) : Mem w.drew p m K bf gf B c := h.other fun _ _ _ => rfl
theorem Mem.alloc (h : Mem w p m K bf gf B c) (o : Obj) : Mem (w.alloc o) p m K bf gf B c := h.below ((Below.refl _ _).alloc (Nat.le_refl _) _)
theorem Mem.turn {S : Nat → Prop} (h : Mem w p m K bf gf B c) (hb : Turn S w w') (hS : ∀ x, S x → w.heap.size ≤ x ∨ (x ≠ p ∧ x ≠ m ∧ ∀ k, k ≤ K → x ≠ bf k ∧ x ≠ gf k)) : Mem w' p m K bf gf B c :=
  h.other fun x hx hc => hb.block x hx fun hs => by
    rcases hS x hs with h1 | ⟨h1, h2, h3⟩
    · omega
    · rcases hc with h4 | h4 | ⟨k, hk, h4 | h4⟩
      · exact h1 h4
      · exact h2 h4
      · exact (h3 k hk).1 h4
      · exact (h3 k hk).2 h4
theorem Has.congr {D : DataW Unit} {B B' : St} (h : Has D B) (hu : SameUsed B B') : Has D B' :=
  ⟨fun a => (h.key a).trans (exists_congr fun k => exists_congr fun i => and_congr_left fun _ => hu k i), fun k i hk => h.val k i ((hu k i).2 hk)⟩
theorem Mem.congr {B' : St} (h : Mem w p m K bf gf B c) (hf : ∀ k i, B k i = .free ↔ B' k i = .free) (hu : SameUsed B B') : Mem w p m K bf gf B' c := by
  refine ⟨h.head, fun k hk => ?_, ?_, h.small, h.pm, h.bg, h.gg, h.gp, h.gm, h.bm⟩
  · obtain ⟨ws, hB, hw⟩ := h.maps k hk
    exact ⟨ws, hB, fun j hj => (hw j hj).trans (hf k j)⟩
  · obtain ⟨n, D, hn, hU, hD⟩ := h.used
    exact ⟨n, D, hn, hU, hD.congr hu⟩
theorem Mem.more (h : Mem w p m K bf gf B c) {c' : Nat} (hc : c ≤ c') : Mem w p m K bf gf B c' := by
  obtain ⟨n, D, hn, r⟩ := h.used
  exact ⟨h.head, h.maps, ⟨n, D, by omega, r⟩, h.small, h.pm, h.bg, h.gg, h.gp, h.gm, h.bm⟩
end

theorem setAll_one {n : Nat} {ws : List Nat} (h : Okm n ws) (on : Bool) (j : Nat) (hj : j < n) (i : Nat) : bit (setAll n on ws [(j : Int)]).1 i = if i = j then on else bit ws i := by
  rw [setAll_bit on h]
  by_cases e : i = j
  · subst e; simp [hj]
  · rw [if_neg e, if_neg]
    rintro ⟨_, h2⟩
    simp at h2; omega

/-- Set of one bit of one of the maps. -/
theorem mem_set {w : World} {p m K : Nat} {bf gf : Nat → Nat} {B : St} {c : Nat} (h : Mem w p m K bf gf B c) (on : Bool) (k j s : Nat) (hk : k ≤ K) (hj : j < 2 ^ (K - k)) (hs : w.heap[s]? = some (.cells #[.int .i64 (j : Int)] 3)) (hsg : s ≠ gf k) :
    Calls Tryz.prog 67 #[.pointer (some ⟨bf k, 0, none⟩), .bool on, .slice (some ⟨s, 0, none⟩) 1 1] w fun e w' => (∃ t : Int, e = .returned (.int .i64 t)) ∧ But (gf k) w w' ∧
      ∀ B' : St, (∀ k' i, B' k' i = .free ↔ if k' = k ∧ i = j then on = true else B k' i = .free) → SameUsed B B' → Mem w' p m K bf gf B' c := by
  obtain ⟨ws, hB, hw⟩ := h.maps k hk
  refine (set_any (bf k) (gf k) (2 ^ (K - k)) ws on [(j : Int)] (some ⟨s, 0, none⟩) 1 w hB (.inr ⟨s, 0, rfl, hsg, (Array.getElem?_eq_some_iff.1 hs).1, fun i hi => ?_⟩) (by simp)).mono ?_
  · obtain rfl : i = 0 := by simpa using hi
    rw [cell_of_row w s _ _ _ _ hs]; rfl
  · rintro e w' ⟨rfl, hB', hb⟩
    refine ⟨⟨_, rfl⟩, hb, fun B' hf hu => ?_⟩
    have ho := h.lb k hk
    refine ⟨?_, fun k' hk' => ?_, ?_, h.small, h.pm, h.bg, h.gg, h.gp, h.gm, h.bm⟩
    · rw [hb.block p h.lp (h.gp k hk).symm]; exact h.head
    · by_cases e : k' = k
      · subst e
        refine ⟨_, hB', fun i hi => ?_⟩
        rw [setAll_one hB.ok on j hj, hf]
        by_cases ei : i = j
        · rw [if_pos ei, if_pos ⟨rfl, ei⟩]
        · rw [if_neg ei, if_neg (fun h => ei h.2)]; exact hw i hi
      · obtain ⟨ws2, hB2, hw2⟩ := h.maps k' hk'
        refine ⟨ws2, hB2.but hb (h.bg k' k hk' hk) (fun e2 => e (h.gg k' k hk' hk e2)), fun i hi => ?_⟩
        rw [hf, if_neg (fun h => e h.1)]; exact hw2 i hi
    · obtain ⟨n, D, hn, hU, hD⟩ := h.used
      exact ⟨n, D, hn, ownsMap_block hU (hb.block m hU.lt (h.gm k hk).symm), hD.congr hu⟩

theorem two_cast (k : Nat) : (2 : Int) ^ k = ((2 ^ k : Nat) : Int) := by simp
theorem pow_le20 {k : Nat} (h : k ≤ 20) : 2 ^ k ≤ 1048576 := by
  have : 2 ^ k ≤ 2 ^ 20 := Nat.pow_le_pow_right (by omega) h
  omega

theorem bytesOf_any (k : Nat) (w : World) (h : k ≤ 20) :
    Calls Tryz.prog 66 #[.int .i64 (k : Int)] w fun e w' => e = .returned (.int .i64 ((1024 * 2 ^ k : Nat) : Int)) ∧ w' = w := by
  have hp := pow_le20 h
  obtain ⟨q, hq⟩ : ∃ q, 2 ^ k = q := ⟨_, rfl⟩
  rw [hq] at hp ⊢
  have hc : (2 : Int) ^ k = (q : Int) := by rw [two_cast, hq]
  go_enter Tryz.func66, Tryz.ntmps66
  go_wp2
  go_ret
  exact ⟨ret_int (by omega), rfl⟩
end Go.Proofs.YtdmnemgooagehaaGreatDoor

namespace Go.Proofs.YtdmnemgooagehaaGreatDoor
open Go.RowKit Go.Maps

theorem count_nil (w : World) : Calls Tryz.prog 76 #[.pointer none] w fun e w' => e = .returned (.int .i64 0) ∧ w' = w := by
  go_enter Tryz.func76, Tryz.ntmps76
  go_wp2
  go_ret
  exact ⟨rfl, rfl⟩
theorem first_nil (w : World) : Calls Tryz.prog 70 #[.pointer none, .bool true, .int .i64 0] w fun e w' => e = .returned (.int .i64 (-1)) ∧ w' = w := by
  go_enter Tryz.func70, Tryz.ntmps70
  go_wp2_with fail
  refine (len_nil _).mono ?_
  rintro e w1 ⟨rfl, rfl⟩
  go_wp2_with fail
  refine (ahead_none _ true 0 0 _ (by omega)).mono ?_
  rintro e w2 ⟨rfl, rfl⟩
  go_wp2_with fail
  go_ret
  exact ⟨rfl, rfl⟩

theorem info64 : (Tryz.prog.info? 104).map (·.size) = some 21 := by kernel_rfl
theorem run_index56 (n : Nat) (bf : Nat → Nat) (k : Nat) (hk : k < 21) (w : World) :
    (Instr.index 104 (.agg (ptrs n bf)) (.int .i64 (k : Int))).run Tryz.prog w = .ok (ptrOf n bf k) w := by
  have hx := ptrs_get n bf k hk
  have h2 : (0 ≤ (k : Int) ∧ (k : Int) < ((21 : Nat) : Int)) := by omega
  have hs : (sizeOf 103).run Tryz.prog w = .ok 1 w := by kernel_rfl
  simp [Instr.index, run_underlying Tryz.underlying104, asIntOf, go_sem, part, hx, hs, hk]
theorem range56 (w : World) (p K n : Nat) (bf : Nat → Nat) (m : Nat) (h : w.heap[p]? = some (.cells (budCells K n bf m) 106)) : w.rangeAt p 1 (ptrs n bf).toList := fun j v hv => by
  have hj : j < 21 := by
    have := (List.getElem?_eq_some_iff.1 hv).1
    simpa [ptrs] using this
  rw [cell_of_row w p (1 + j) _ _ _ h, budCells_ptr _ _ _ _ _ hj]
  rw [Array.getElem?_toList, ptrs_get n bf j hj] at hv
  exact hv
/-- The whole row of maps, loaded. -/
theorem wpList_load56 {ops : Array Oper} {rest : List Oper} {op : Oper} {a : Act} {w : World} {Q : Exit → Act → World → Prop} (hgd : op.guard = none) (x : Operand) (ho : op.op = .load 104 x)
    (p K n : Nat) (bf : Nat → Nat) (m : Nat) (A : Array Value) (hx : a.eval x = .pointer (some ⟨p, 1, none⟩)) (hb : w.heap[p]? = some (.cells (budCells K n bf m) 106)) (hA : ptrs n bf = A)
    (h : wpList Tryz.prog ops Q rest (a.put op.dst (.agg A)) w) : wpList Tryz.prog ops Q (op :: rest) a w := by
  refine wpList_load_mid hgd 104 x ho p 1 hx (ptrs n bf).toList _ (range56 w p K n bf m hb) Tryz.underlying104 rfl (by rw [info64]; simp [ptrs]) ?_
  rw [Array.toArray_toList, hA]; exact h

theorem cnt_off {f : Nat → Bool} {n : Nat} (h : ∀ i, n ≤ i → f i = false) : ∀ r, cnt f (n + r) = cnt f n
  | 0 => rfl
  | r + 1 => by
    show cnt f (n + r) + (f (n + r)).toNat = _
    rw [cnt_off h r, h _ (by omega)]; rfl
theorem count_cnt {n : Nat} {ws : List Nat} (h : Okm n ws) : count ws = cnt (bit ws) n := by
  unfold count
  rw [total_eq]
  obtain ⟨r, hr⟩ : ∃ r, 64 * ws.length = n + r := ⟨64 * ws.length - n, by rw [h.len]; omega⟩
  rw [hr, cnt_off h.off]

/-- Count of one of the maps, a nil one too. -/
theorem mem_count {w : World} {p m K : Nat} {bf gf : Nat → Nat} {B : St} {c : Nat} (h : Mem w p m K bf gf B c) (hi : Inv K B) (k : Nat) :
    Calls Tryz.prog 76 #[ptrOf (K + 1) bf k] w fun e w' => e = .returned (.int .i64 (cnt (isK B .free k) (2 ^ (K - k)) : Int)) ∧ w' = w := by
  unfold ptrOf
  by_cases hk : k ≤ K
  · rw [if_pos (by omega)]
    obtain ⟨ws, hB, hw⟩ := h.maps k hk
    rw [← cnt_congr (f := bit ws) (fun i hi => by
      have := hw i hi
      unfold isK
      cases hb : bit ws i
      · rw [hb] at this; rw [decide_eq_false]; intro h2; have := this.2 h2; cases this
      · rw [decide_eq_true (this.1 hb)]), ← count_cnt hB.ok]
    exact count_any _ _ _ _ _ hB
  · rw [if_neg (by omega)]
    have e : cnt (isK B .free k) (2 ^ (K - k)) = 0 := by
      have : ∀ n, cnt (isK B .free k) n = 0 := by
        intro n
        induction n with
        | zero => rfl
        | succ n ih =>
          unfold cnt
          rw [ih]
          unfold isK
          rw [decide_eq_false]
          · rfl
          · intro hf
            have := (hi.inn k n (by rw [hf]; simp)).1
            omega
      exact this _
    rw [e]
    exact count_nil w

theorem pages_bound {K : Nat} (hK : K ≤ 20) (f : Nat → Nat → Bool) : ∀ j, j ≤ 21 → pages K f j ≤ j * 1048576
  | 0, _ => by simp [pages]
  | j + 1, h => by
    have h1 := pages_bound hK f j (by omega)
    have h2 := cnt_le (f j) (2 ^ (K - j))
    have h3 : cnt (f j) (2 ^ (K - j)) * 2 ^ j ≤ 2 ^ (K - j) * 2 ^ j := Nat.mul_le_mul_right _ h2
    rw [← Nat.pow_add] at h3
    have h4 := pow_le20 (show K - j + j ≤ 20 by omega)
    unfold pages
    omega
theorem pages_top {K : Nat} {B : St} (hi : Inv K B) {x : Kind} (hx : x ≠ .no) : ∀ j, K + 1 ≤ j → pages K (isK B x) j = pages K (isK B x) (K + 1) := by
  intro j hj
  obtain ⟨d, rfl⟩ := Nat.exists_eq_add_of_le hj
  clear hj
  induction d with
  | zero => rfl
  | succ d ih =>
    rw [show K + 1 + (d + 1) = (K + 1 + d) + 1 from rfl]
    have : ∀ n, cnt (isK B x (K + 1 + d)) n = 0 := by
      intro n
      induction n with
      | zero => rfl
      | succ n ih =>
        unfold cnt
        rw [ih]
        unfold isK
        rw [decide_eq_false]
        · rfl
        · intro hf
          have := (hi.inn _ n (by rw [hf]; exact hx)).1
          omega
    show pages K (isK B x) (K + 1 + d) + _ = _
    rw [this, ih]; omega

set_option maxRecDepth 100000 in
theorem left_any (w : World) (p m K : Nat) (bf gf : Nat → Nat) (B : St) (c : Nat) (hM : Mem w p m K bf gf B c) (hi : Inv K B) :
    Calls Tryz.prog 62 #[.pointer (some ⟨p, 0, none⟩)] w fun e w' => e = .returned (.int .i64 ((pages K (isK B .free) (K + 1) * 1024 : Nat) : Int)) ∧ w' = w := by
  have hl := hid hM.head
  have hix := fun k hk => run_index56 (K + 1) bf k hk w
  have hc := fun k => mem_count hM hi k
  rw [← pages_top hi (by simp) 21 (by have := hM.small; omega)]
  have hb := pages_bound hM.small (isK B .free)
  have hcb : ∀ k, k < 21 → cnt (isK B .free k) (2 ^ (K - k)) ≤ 1048576 := fun k hk => Nat.le_trans (cnt_le _ _) (pow_le20 (by have := hM.small; omega))
  have hst : ∀ k, pages K (isK B .free) (k + 1) = pages K (isK B .free) k + cnt (isK B .free k) (2 ^ (K - k)) * 2 ^ k := fun _ => rfl
  generalize hA : ptrs (K + 1) bf = A at *
  have HA := hid hA
  generalize hpt : ptrOf (K + 1) bf = pt at *
  generalize hpg : pages K (isK B .free) = pg at *
  have hp0 : pg 0 = 0 := by rw [← hpg]; rfl
  generalize (fun k => cnt (isK B .free k) (2 ^ (K - k))) = cc at *
  have HC := hid hc
  have HX := hid hix
  have HB := hid hb
  have HCB := hid hcb
  have HST := hid hst
  clear hM hi hc hix hb hcb hst hpt hpg hA
  go_enter Tryz.func62, Tryz.ntmps62
  go_wp2_with (refine wpList_load56 rfl _ rfl p K (K + 1) bf m A rfl hl.out HA.out ?_)
  go_loop [3, 12] (fun t i => ∃ k : Nat, k ≤ 21 ∧ i = .int .i64 k ∧ t = .int .i64 ((pg k * 1024 : Nat) : Int)) (fun _ i => 21 - (intOf i).toNat)
  case atStart => exact ⟨0, by omega, rfl, by rw [hp0]; rfl⟩
  case round =>
    obtain ⟨k, hk, rfl, rfl⟩ := hrel
    by_cases hlt : k < 21
    · have hx := HX.out k hlt
      have h1 := HB.out k (by omega)
      have h2 := HB.out (k + 1) (by omega)
      have h3 := HCB.out k hlt
      have hc := HC.out k
      have h4 := HST.out k
      have hpw := pow_le20 (show k ≤ 20 by omega)
      generalize hy : pg (k + 1) = y at *
      have HY := hid hy
      generalize pg k = x at *
      generalize cnt (isK B .free k) (2 ^ (K - k)) = n at *
      have hprod : (n : Int) * ((1024 * 2 ^ k : Nat) : Int) = ((n * 2 ^ k * 1024 : Nat) : Int) := by
        rw [← Int.natCast_mul]; congr 1; rw [Nat.mul_comm 1024, Nat.mul_assoc]
      generalize hz : n * 2 ^ k = z at *
      obtain ⟨s, hs⟩ : ∃ s : Int, s = ((1024 * 2 ^ k : Nat) : Int) := ⟨_, rfl⟩
      have HS := hid hs
      rw [← hs] at hprod
      clear HC HX HB HCB HST hs hy
      go_wp2_with fail
      refine hc.mono ?_
      rintro e w1 ⟨rfl, rfl⟩
      go_wp2_with fail
      refine (bytesOf_any k _ (by omega)).mono ?_
      rintro e w1 ⟨rfl, rfl⟩
      rw [← HS.out]
      go_wp2_with fail
      go_round
      case rel => exact ⟨k + 1, by omega, by go_num, by rw [HY.out, h4]; go_num⟩
      case measure => simp [intOf]; omega
    · obtain rfl : k = 21 := by omega
      go_wp2
      go_ret
      exact ⟨rfl, rfl⟩

/-- r is the first free block of the order from there on; -1 without. -/
def FirstB (B : St) (k f : Nat) (r : Int) : Prop :=
  (r = -1 ∧ ∀ j, f ≤ j → B k j ≠ .free) ∨ ∃ i : Nat, r = (i : Int) ∧ f ≤ i ∧ B k i = .free ∧ ∀ j, f ≤ j → j < i → B k j ≠ .free
def FirstPost (B : St) (k f : Nat) (w : World) (e : Ending) (w' : World) : Prop := ∃ r, e = .returned (.int .i64 r) ∧ FirstB B k f r ∧ w' = w

theorem mem_first {w : World} {p m K : Nat} {bf gf : Nat → Nat} {B : St} {c : Nat} (h : Mem w p m K bf gf B c) (hi : Inv K B) (hT : Tab w) (k f : Nat) (hk : k ≤ K ∨ f = 0) (hf : f ≤ 1048576) :
    Calls Tryz.prog 70 #[ptrOf (K + 1) bf k, .bool true, .int .i64 (f : Int)] w (FirstPost B k f w) := by
  unfold ptrOf
  by_cases hk' : k ≤ K
  · rw [if_pos (by omega)]
    obtain ⟨ws, hB, hw⟩ := h.maps k hk'
    refine (first_any (bf k) (gf k) (2 ^ (K - k)) ws true f w hB hT (by omega)).mono ?_
    rintro e w' ⟨r, rfl, hr, rfl⟩
    refine ⟨r, rfl, ?_, rfl⟩
    rcases hr with ⟨rfl, h1⟩ | ⟨i, rfl, h1, h2, h3, h4⟩
    · refine .inl ⟨rfl, fun j hj hb => ?_⟩
      have hlt := (hi.inn k j (by rw [hb]; simp)).2
      exact h1 j hj hlt ((hw j hlt).2 hb)
    · refine .inr ⟨i, rfl, h1, (hw i h2).1 h3, fun j hj1 hj2 hb => ?_⟩
      have hlt := (hi.inn k j (by rw [hb]; simp)).2
      exact h4 j hj1 hj2 ((hw j hlt).2 hb)
  · rw [if_neg (by omega)]
    obtain rfl : f = 0 := by omega
    refine (first_nil w).mono ?_
    rintro e w' ⟨rfl, rfl⟩
    refine ⟨-1, rfl, .inl ⟨rfl, fun j _ hb => ?_⟩, rfl⟩
    have := (hi.inn k j (by rw [hb]; simp)).1
    omega
theorem mem_first' {w : World} {p m K : Nat} {bf gf : Nat → Nat} {B : St} {c : Nat} (h : Mem w p m K bf gf B c) (hi : Inv K B) (hT : Tab w) (k : Nat) (hk : k ≤ K) :
    Calls Tryz.prog 70 #[.pointer (some ⟨bf k, 0, none⟩), .bool true, .int .i64 0] w (FirstPost B k 0 w) := by
  have := mem_first h hi hT k 0 (.inr rfl) (by omega)
  rwa [ptrOf, if_pos (by omega)] at this

def GreatB (B : St) (r : Int) : Prop := (r = -1 ∧ ∀ k i, B k i ≠ .free) ∨ ∃ k i : Nat, r = (k : Int) ∧ B k i = .free ∧ ∀ k' i', B k' i' = .free → k' ≤ k
def GreatPost (B : St) (w : World) (e : Ending) (w' : World) : Prop := ∃ r, e = .returned (.int .i64 r) ∧ GreatB B r ∧ w' = w

/-- The lowest free block of the least order from there on. -/
def Least (B : St) (o k i : Nat) : Prop := o ≤ k ∧ B k i = .free ∧ (∀ j, j < i → B k j ≠ .free) ∧ ∀ k' j, o ≤ k' → k' < k → B k' j ≠ .free
def LeastPost (B : St) (o : Nat) (w : World) (e : Ending) (w' : World) : Prop :=
  ∃ k i : Int, e = .returned (.tuple #[.int .i64 k, .int .i64 i]) ∧ w' = w ∧ ((i = -1 ∧ ∀ k' j, o ≤ k' → B k' j ≠ .free) ∨ ∃ k' i' : Nat, k = (k' : Int) ∧ i = (i' : Int) ∧ Least B o k' i')

theorem leastFree_any (w : World) (p m K : Nat) (bf gf : Nat → Nat) (B : St) (c o : Nat) (hM : Mem w p m K bf gf B c) (hi : Inv K B) (hT : Tab w) (ho : o ≤ K) :
    Calls Tryz.prog 86 #[.pointer (some ⟨p, 0, none⟩), .int .i64 (o : Int)] w (LeastPost B o w) := by
  have h0 := hM.cK
  have hK := hM.small
  have HM := hid hM
  have HI := hid hi
  have HT := hid hT
  clear hM hi hT
  go_enter Tryz.func86, Tryz.ntmps86
  go_wp2_with fail
  go_loop [6] (fun t => ∃ k : Nat, o ≤ k ∧ k ≤ K + 1 ∧ t = .int .i64 (k : Int) ∧ Hid (∀ k' j, o ≤ k' → k' < k → B k' j ≠ .free)) (fun t => (K : Nat) + 1 - (intOf t).toNat)
  case atStart => exact ⟨o, by omega, by omega, rfl, fun k' j h1 h2 => by omega⟩
  case round =>
    obtain ⟨k, hok, hj, rfl, hn⟩ := hrel
    by_cases hlt : k ≤ K
    · have hcp := HM.out.cptr k hlt
      have hk20 : k < 21 := by omega
      go_wp2_with fail
      refine (mem_first' HM.out HI.out HT.out k hlt).mono ?_
      rintro e w1 ⟨r, rfl, hr, rfl⟩
      rcases hr with ⟨rfl, hnone⟩ | ⟨i, rfl, _, hfree, hfirst⟩
      · have HN := hid hnone
        clear hnone
        go_wp2_with fail
        go_round
        case rel =>
          refine ⟨k + 1, by omega, by omega, by go_num, fun k' j h1 h2 => ?_⟩
          by_cases e : k' = k
          · subst e; exact HN.out j (Nat.zero_le _)
          · exact hn.out k' j h1 (by omega)
        case measure => simp [intOf]; omega
      · have HF := hid (And.intro hfree hfirst)
        clear hfree hfirst
        go_wp2_with fail
        go_ret2
        exact ⟨_, _, rfl, rfl, .inr ⟨k, i, rfl, rfl, hok, HF.out.1, fun j hj => HF.out.2 j (Nat.zero_le _) hj, hn.out⟩⟩
    · obtain rfl : k = K + 1 := by omega
      go_wp2_with fail
      go_ret2
      refine ⟨_, _, rfl, rfl, .inl ⟨rfl, fun k' j h1 hb => ?_⟩⟩
      have := (HI.out.inn k' j (by rw [hb]; simp)).1
      exact hn.out k' j h1 (by omega) hb
end Go.Proofs.YtdmnemgooagehaaGreatDoor

namespace Go.Proofs.YtdmnemgooagehaaGreatDoor
open Go.RowKit Go.Maps

theorem addr_inj {K : Nat} {B : St} (h : Inv K B) {k i k' i' : Nat} (hb : B k i ≠ .no) (hb' : B k' i' ≠ .no) (he : addr k i = addr k' i') : k = k' ∧ i = i' := by
  unfold addr at he
  exact begins h hb hb' (by omega)

theorem Has.put {K : Nat} {D : DataW Unit} {B B' : St} (h : Has D B) (hD : IsMap D) (hi : Inv K B') {o n : Nat} (hu : ∀ k i, B' k i = .used ↔ (B k i = .used ∨ k = o ∧ i = n)) : Has (D.put (.int .i64 (addr o n)) (.lit (.int .i64 (o : Int)))) B' := by
  have hon : B' o n = .used := (hu o n).2 (.inr ⟨rfl, rfl⟩)
  refine ⟨fun a => ?_, fun k i hk z => ?_⟩
  · by_cases e : a = addr o n
    · subst e
      rw [has_put_same (k := .int .i64 (addr o n)) hD trivial]
      exact ⟨fun _ => ⟨o, n, hon, rfl⟩, fun _ => rfl⟩
    · rw [has_put_other (by simpa using e), h.key]
      constructor
      · rintro ⟨k, i, hb, rfl⟩
        exact ⟨k, i, (hu k i).2 (.inl hb), rfl⟩
      · rintro ⟨k, i, hb, rfl⟩
        rcases (hu k i).1 hb with h1 | ⟨rfl, rfl⟩
        · exact ⟨k, i, h1, rfl⟩
        · exact absurd rfl e
  · by_cases e : addr k i = addr o n
    · obtain ⟨rfl, rfl⟩ := addr_inj hi (by rw [hk]; simp) (by rw [hon]; simp) e
      exact atKey_put_same (k := .int .i64 (addr k i)) hD trivial _ _
    · rw [atKey_put_other (by simpa using e)]
      rcases (hu k i).1 hk with h1 | ⟨rfl, rfl⟩
      · exact h.val k i h1 z
      · exact absurd rfl e
theorem Has.del {K : Nat} {D : DataW Unit} {B B' : St} (h : Has D B) (hi : Inv K B) {o n : Nat} (hb : B o n = .used) (hu : ∀ k i, B' k i = .used ↔ (B k i = .used ∧ ¬ (k = o ∧ i = n))) : Has (D.del (.int .i64 (addr o n))) B' := by
  refine ⟨fun a => ?_, fun k i hk z => ?_⟩
  · by_cases e : a = addr o n
    · subst e
      rw [has_del_same]
      constructor
      · intro h; cases h
      · rintro ⟨k, i, h1, h2⟩
        have h3 := (hu k i).1 h1
        obtain ⟨rfl, rfl⟩ := addr_inj hi (by rw [hb]; simp) (by rw [h3.1]; simp) h2
        exact absurd ⟨rfl, rfl⟩ h3.2
    · rw [has_del_other (by simpa using e), h.key]
      constructor
      · rintro ⟨k, i, h1, rfl⟩
        exact ⟨k, i, (hu k i).2 ⟨h1, by rintro ⟨rfl, rfl⟩; exact e rfl⟩, rfl⟩
      · rintro ⟨k, i, h1, rfl⟩
        exact ⟨k, i, ((hu k i).1 h1).1, rfl⟩
  · have h3 := (hu k i).1 hk
    rw [atKey_del_other (by
      intro e
      obtain ⟨rfl, rfl⟩ := addr_inj hi (by rw [h3.1]; simp) (by rw [hb]; simp) (by simpa using e)
      exact h3.2 ⟨rfl, rfl⟩)]
    exact h.val k i h3.1 z

/-- A block more is used. -/
def Plus (B B' : St) (o n : Nat) : Prop := ∀ k i, B' k i = .used ↔ (B k i = .used ∨ k = o ∧ i = n)
/-- A block less is used. -/
def Less (B B' : St) (o n : Nat) : Prop := ∀ k i, B' k i = .used ↔ (B k i = .used ∧ ¬ (k = o ∧ i = n))

theorem wf_i64 {a : Int} (h0 : -9223372036854775808 ≤ a) (h1 : a < 9223372036854775808) : (Lit.int .i64 a).wf = true := WalkArith.wf_i64 (by omega)

def TakePost (w : World) (p m K : Nat) (bf gf : Nat → Nat) (B : St) (c o : Nat) (e : Ending) (w' : World) : Prop :=
  ∃ at_ er : Int, e = .returned (.tuple #[.int .i64 at_, .int .i64 er]) ∧ Turn (Own m K gf) w w' ∧
    ((er = 4 ∧ at_ = 0 ∧ (∀ k j, o ≤ k → B k j ≠ .free) ∧ Mem w' p m K bf gf B c) ∨
     ∃ k i n B', er = 0 ∧ Least B o k i ∧ at_ = addr k i ∧ addr o n = addr k i ∧ B o n ≠ .used ∧ Plus B B' o n ∧ Inv K B' ∧ NoHeld B' ∧ Mem w' p m K bf gf B' (c + 1))

theorem take_nil (o : Int) (w : World) : Calls Tryz.prog 20 #[.pointer none, .int .i64 o] w fun e w' => e = .returned (.tuple #[.int .i64 0, .int .i64 1]) ∧ w' = w := by
  go_enter Tryz.func20, Tryz.ntmps20
  go_wp2
  go_ret2
  exact ⟨rfl, rfl⟩
theorem take_bad (w : World) (p K : Nat) (o : Int) (h0 : w.cell? ⟨p, 0, none⟩ = some (.int .i64 (K : Int))) (ho : o < 0 ∨ (K : Int) < o) :
    Calls Tryz.prog 20 #[.pointer (some ⟨p, 0, none⟩), .int .i64 o] w fun e w' => e = .returned (.tuple #[.int .i64 0, .int .i64 1]) ∧ w' = w := by
  by_cases h : o < 0
  · go_enter Tryz.func20, Tryz.ntmps20
    go_wp2
    go_ret2
    exact ⟨rfl, rfl⟩
  · have ho : (K : Int) < o := by omega
    go_enter Tryz.func20, Tryz.ntmps20
    go_wp2
    go_ret2
    exact ⟨rfl, rfl⟩

theorem least_used {K : Nat} {B : St} (hi : Inv K B) {o k i n : Nat} (hl : Least B o k i) (hn : n * 2 ^ o = i * 2 ^ k) : B o n ≠ .used := by
  intro hb
  obtain ⟨rfl, rfl⟩ := begins hi (by rw [hb]; simp) (by rw [hl.2.1]; simp) hn
  rw [hl.2.1] at hb
  cases hb

set_option maxHeartbeats 1000000 in
set_option maxRecDepth 100000 in
theorem take_any (w : World) (p m K : Nat) (bf gf : Nat → Nat) (B : St) (c o : Nat) (hM : Mem w p m K bf gf B c) (hi : Inv K B) (hn : NoHeld B) (hT : Tab w) (ho : o ≤ K) (hc : c ≤ 1000000) :
    Calls Tryz.prog 20 #[.pointer (some ⟨p, 0, none⟩), .int .i64 (o : Int)] w (TakePost w p m K bf gf B c o) := by
  have h0 := hM.cK
  have hK := hM.small
  have HM := hid hM
  have HI := hid hi
  have HN := hid hn
  have HT := hid hT
  clear hM hi hT hn
  go_enter Tryz.func20, Tryz.ntmps20
  go_wp2_with fail
  refine (leastFree_any w p m K bf gf B c o HM.out HI.out HT.out ho).mono ?_
  rintro e w1 ⟨k0, i0, rfl, rfl, hl⟩
  rcases hl with ⟨rfl, hnone⟩ | ⟨k, i, rfl, rfl, hl⟩
  · have HX := hid hnone
    clear hnone
    go_wp2_with fail
    go_ret2
    exact ⟨_, _, rfl, Turn.refl _ _, .inl ⟨rfl, rfl, HX.out, HM.out⟩⟩
  · obtain ⟨B1, hi1, hh1, hs1, hf1⟩ := lift_step HI.out HN.out hl.2.1
    obtain ⟨hkK, hiK⟩ := HI.out.inn k i (by rw [hl.2.1]; simp)
    have hok := hl.1
    have hk21 : k < 21 := by omega
    have hcp := HM.out.cptr k hkK
    have HL := hid hl
    have H1 := hid (And.intro hi1 (And.intro hh1 (And.intro hs1 hf1)))
    clear hl hi1 hh1 hs1 hf1
    go_wp2_with fail
    refine (mem_set (HM.out.alloc _) false k i w1.heap.size hkK hiK (heap_alloc_new _ _) (by have := (HM.out.lb k hkK).2; omega)).mono ?_
    rintro e w2 ⟨⟨t, rfl⟩, hb, hmem⟩
    have hm2 := hid (hmem B1 (fun k' j => by
      rw [H1.out.2.2.2 k' j]
      by_cases e : k' = k ∧ j = i
      · simp [e]
      · simp [e]) H1.out.2.2.1)
    have ht2 : Turn (Own m K gf) w1 w2 := ((Turn.refl _ _).alloc _).then hb (.inl (.inr ⟨k, hkK, rfl⟩))
    clear hb hmem
    go_wp2_with fail
    go_loopw [6, 7] (fun t6 t7 wr => ∃ kk ii : Nat, o ≤ kk ∧ kk ≤ k ∧ t6 = .int .i64 (kk : Int) ∧ t7 = .int .i64 (ii : Int) ∧ Hid (ii * 2 ^ kk = i * 2 ^ k) ∧ (∃ B', Hid (Inv K B' ∧ HeldAt B' kk ii ∧ SameUsed B B' ∧ Mem wr p m K bf gf B' c)) ∧ Turn (Own m K gf) w1 wr) (fun t6 _ _ => (intOf t6).toNat)
    case atStart => exact ⟨k, i, hok, Nat.le_refl _, rfl, rfl, rfl, ⟨B1, H1.out.1, H1.out.2.1, H1.out.2.2.1, hm2.out⟩, ht2⟩
    case round =>
      obtain ⟨kk, ii, hokk, hkk, rfl, rfl, hpos, ⟨B', hB'⟩, htr⟩ := hrel
      clear hm2 ht2 H1
      have hheld : B' kk ii = .held := (hB'.out.2.1 _ _).2 ⟨rfl, rfl⟩
      have hin := HI
      have hii := (hB'.out.1.inn kk ii (by rw [hheld]; simp)).2
      have hiib : ii < 1048576 := Nat.lt_of_lt_of_le hii (pow_le20 (by omega))
      clear hheld
      by_cases hgt : o < kk
      · obtain ⟨j, rfl⟩ : ∃ j, kk = j + 1 := ⟨kk - 1, by omega⟩
        obtain ⟨B2, hi2, hh2, hs2, hf2⟩ := split_step hB'.out.1 hB'.out.2.1
        have hheld2 : B2 j (2 * ii) = .held := (hh2 _ _).2 ⟨rfl, rfl⟩
        have hfr2 : B2 j (2 * ii + 1) = .free := (hf2 _ _).2 (.inr ⟨rfl, rfl⟩)
        have hin2 := (hi2.inn j (2 * ii + 1) (by rw [hfr2]; simp)).2
        have hcp2 := hB'.out.2.2.2.cptr j (by omega)
        have e1 : ((j + 1 : Nat) : Int) - 1 = (j : Int) := by omega
        have hj21 : j < 21 := by omega
        have HS2 := hid (And.intro hi2 (And.intro hh2 (And.intro hs2 hf2)))
        clear hi2 hh2 hs2 hf2 hheld2 hfr2
        go_wp2_with fail
        have e2 : (ii : Int) * 2 + 1 = ((2 * ii + 1 : Nat) : Int) := by omega
        rw [e2]
        refine (mem_set (hB'.out.2.2.2.alloc _) true j (2 * ii + 1) wr.heap.size (by omega) hin2 (heap_alloc_new _ _) (by have := (hB'.out.2.2.2.lb j (by omega)).2; omega)).mono ?_
        rintro e w3 ⟨⟨t, rfl⟩, hb, hmem⟩
        have hm3 := hid (hmem B2 (fun k' j' => by
          rw [HS2.out.2.2.2 k' j']
          by_cases e : k' = j ∧ j' = 2 * ii + 1
          · simp [e]
          · simp [e]) HS2.out.2.2.1)
        have ht3 : Turn (Own m K gf) w1 w3 := (htr.alloc _).then hb (.inl (.inr ⟨j, by omega, rfl⟩))
        clear hb hmem
        go_wp2_with fail
        refine ⟨⟨j, 2 * ii, by omega, by omega, by go_num, by go_num, ?_, ⟨B2, HS2.out.1, HS2.out.2.1, hB'.out.2.2.1.trans HS2.out.2.2.1, hm3.out⟩, ht3⟩, by simp [intOf]⟩
        have := hpos.out
        show 2 * ii * 2 ^ j = i * 2 ^ k
        rw [← this, Nat.pow_succ, Nat.mul_comm 2 ii, Nat.mul_assoc, Nat.mul_comm 2]
      · obtain rfl : kk = o := by omega
        obtain ⟨B2, hi2, hh2, hu2, hf2⟩ := use_step hB'.out.1 hB'.out.2.1
        have HS2 := hid (And.intro hi2 (And.intro hh2 (And.intro hu2 hf2)))
        clear hi2 hh2 hu2 hf2
        have hpw := pow_le20 (show kk ≤ 20 by omega)
        have hal : ii * 2 ^ kk ≤ 1048576 * 1 := by
          have := hB'.out.1.inn kk ii (by rw [(hB'.out.2.1 _ _).2 ⟨rfl, rfl⟩]; simp)
          have h2 : ii * 2 ^ kk ≤ 2 ^ (K - kk) * 2 ^ kk := Nat.mul_le_mul_right _ (by omega)
          rw [← Nat.pow_add] at h2
          have := pow_le20 (show K - kk + kk ≤ 20 by omega)
          omega
        have hprod : (ii : Int) * ((1024 * 2 ^ kk : Nat) : Int) = ((ii * 2 ^ kk * 1024 : Nat) : Int) := by
          rw [← Int.natCast_mul]; congr 1; rw [Nat.mul_comm 1024, Nat.mul_assoc]
        obtain ⟨s, hs⟩ : ∃ s : Int, s = ((1024 * 2 ^ kk : Nat) : Int) := ⟨_, rfl⟩
        rw [← hs] at hprod
        have HS := hid hs
        clear hs
        obtain ⟨n, D, hnc, hU, hD⟩ := hB'.out.2.2.2.used
        have hcm := hB'.out.2.2.2.cmap
        have HU := hid hU
        have HD := hid hD
        obtain ⟨z, hz⟩ : ∃ z, z = ii * 2 ^ kk * 1024 := ⟨_, rfl⟩
        rw [← hz] at hprod
        have hzb : z ≤ 1073741824 := by omega
        have HZ := hid hz
        clear hU hD hz hal
        go_wp2_with fail
        refine (bytesOf_any kk _ (by omega)).mono ?_
        rintro e w4 ⟨rfl, rfl⟩
        rw [← HS.out]
        go_wp2_with (first | (at_mapUpdate; refine wpList_mapUpdate_in _ rfl _ _ _ 102 rfl 3 3 law3 Tryz.underlying102 _ m n D rfl HU.out (by unfold maxLen; omega) _ _ _ rfl rfl (keyOf_int_mk Tryz.underlying3 (wf_i64 (by omega) (by omega))) _ [] (plainElem_int Tryz.underlying3 (wf_i64 (by omega) (by omega))) ?_; intro w5 hU5 hturn5; have HU5 := hid hU5; have HT5 := hid hturn5; clear hU5 hturn5) | go_in)
        go_ret2
        have hz := HZ.out
        have hadr : addr kk ii = (z : Int) := by unfold addr; rw [hz]
        have hadr2 : addr k i = (z : Int) := by unfold addr; rw [hz, hpos.out]
        have ht5 : Turn (Own m K gf) w1 w5 := htr.trans (Turn.of_grown HT5.out.grown (fun j hj => by cases hj; exact .inl (.inl rfl)))
        refine ⟨_, _, rfl, ht5, .inr ⟨k, i, ii, B2, rfl, HL.out, hadr2.symm, by rw [hadr, hadr2], least_used HI.out HL.out hpos.out, fun k' i' => ?_, HS2.out.1, HS2.out.2.1, ?_⟩⟩
        · rw [HS2.out.2.2.1 k' i', ← hB'.out.2.2.1 k' i']
        · have hmm := hB'.out.2.2.2
          have hg := HT5.out.grown
          have hoth : ∀ x, x < w4.heap.size → x ≠ m → w5.heap[x]? = w4.heap[x]? := fun x hx hne => hg.block x hx (by simpa using hne)
          refine ⟨by rw [hoth p hmm.lp hmm.pm]; exact hmm.head, fun k' hk' => ?_, ⟨n + 1, _, by omega, HU5.out, ?_⟩, hmm.small, hmm.pm, hmm.bg, hmm.gg, hmm.gp, hmm.gm, hmm.bm⟩
          · obtain ⟨ws, hBt, hw⟩ := hmm.maps k' hk'
            refine ⟨ws, ⟨by rw [hoth _ hBt.lt.1 (hmm.bm k' hk')]; exact hBt.head, by rw [hoth _ hBt.lt.2 (hmm.gm k' hk')]; exact hBt.body, hBt.unlike, hBt.small, hBt.ok⟩, fun j hj => ?_⟩
            rw [HS2.out.2.2.2 k' j]; exact hw j hj
          · rw [← hadr]
            exact HD.out.put HU.out.isMap HS2.out.1 HS2.out.2.2.1

/-- Order of what begins there, or -1. -/
def OrderB (B : St) (a r : Int) : Prop := (r = -1 ∧ ∀ k i, B k i = .used → a ≠ addr k i) ∨ ∃ k i : Nat, r = (k : Int) ∧ B k i = .used ∧ a = addr k i
def OrderPost (B : St) (a : Int) (w : World) (e : Ending) (w' : World) : Prop := ∃ r, e = .returned (.int .i64 r) ∧ OrderB B a r ∧ w' = w

theorem give_nil (a : Int) (w : World) : Calls Tryz.prog 131 #[.pointer none, .int .i64 a] w fun e w' => e = .returned (.int .i64 1) ∧ w' = w := by
  go_enter Tryz.func131, Tryz.ntmps131
  go_wp2
  go_ret
  exact ⟨rfl, rfl⟩

def GivePost (w : World) (p m K : Nat) (bf gf : Nat → Nat) (B : St) (c : Nat) (a : Int) (e : Ending) (w' : World) : Prop :=
  ∃ er : Int, e = .returned (.int .i64 er) ∧ Turn (Own m K gf) w w' ∧
    ((er = 6 ∧ (∀ k i, B k i = .used → a ≠ addr k i) ∧ Mem w' p m K bf gf B c) ∨
     ∃ k i B', er = 0 ∧ B k i = .used ∧ a = addr k i ∧ Less B B' k i ∧ Inv K B' ∧ NoHeld B' ∧ Mem w' p m K bf gf B' c)

theorem xor_bud (i : Nat) : i ^^^ 1 = bud i := by
  have h1 : (i ^^^ 1) / 2 = i / 2 := by rw [Nat.xor_div_two]; simp
  have h3 := Nat.testBit_xor i 1 0
  simp only [Nat.testBit_zero] at h3
  generalize i ^^^ 1 = y at *
  unfold bud
  rcases Nat.mod_two_eq_zero_or_one i with h4 | h4
  · rw [if_pos h4]
    have h5 : y % 2 = 1 := by simpa [h4] using h3
    omega
  · rw [if_neg (by omega)]
    have h5 : ¬ y % 2 = 1 := by simpa [h4] using h3
    omega
theorem xor_one (i : Nat) (h : i < 1048576) : bits .xor .i64 (i : Int) 1 = ((bud i : Nat) : Int) := by
  have hx : i ^^^ 1 < 2 ^ 21 := Nat.xor_lt_two_pow (by omega) (by omega)
  show IntKind.i64.wrap ((BitVec.ofInt 64 (i : Int) ^^^ BitVec.ofInt 64 ((1 : Nat) : Int)).toNat : Int) = _
  rw [BitVec.toNat_xor, ofInt_u64 i (by omega), ofInt_u64 1 (by omega), wrap_i _ (by omega) (by omega), xor_bud]

theorem mem_get {w : World} {p m K : Nat} {bf gf : Nat → Nat} {B : St} {c : Nat} (h : Mem w p m K bf gf B c) (hi : Inv K B) (k i : Nat) (hk : k ≤ K) :
    Calls Tryz.prog 123 #[.pointer (some ⟨bf k, 0, none⟩), .int .i64 (i : Int)] w fun e w' => e = .returned (.bool (decide (B k i = .free))) ∧ ∃ q, w' = w.drewN q := by
  obtain ⟨ws, hB, hw⟩ := h.maps k hk
  have e : getB (2 ^ (K - k)) ws (i : Int) = decide (B k i = .free) := by
    unfold getB hasB
    by_cases hlt : i < 2 ^ (K - k)
    · rw [decide_eq_true (⟨by omega, by omega⟩), Bool.true_and, Int.toNat_natCast]
      have := hw i hlt
      cases hb : bit ws i
      · rw [hb] at this
        rw [decide_eq_false]
        intro h2; have := this.2 h2; cases this
      · rw [decide_eq_true (this.1 hb)]
    · rw [decide_eq_false (by omega), Bool.false_and, decide_eq_false]
      intro hb
      exact hlt (hi.inn k i (by rw [hb]; simp)).2
  rw [← e]
  exact get_any _ _ _ _ _ _ hB

theorem addr_div (k i : Nat) : addr k i / ((1024 * 2 ^ k : Nat) : Int) = (i : Int) := by
  unfold addr
  rw [← Int.natCast_ediv]
  congr 1
  rw [Nat.mul_assoc, Nat.mul_comm (2 ^ k) 1024]
  exact Nat.mul_div_cancel _ (by have := Nat.two_pow_pos k; omega)

theorem give_none (w : World) (p m K : Nat) (bf gf : Nat → Nat) (B : St) (c : Nat) (a : Int) (hM : Mem w p m K bf gf B c) (ha : (Lit.int .i64 a).wf = true) (hno : ∀ k i, B k i = .used → a ≠ addr k i) :
    Calls Tryz.prog 131 #[.pointer (some ⟨p, 0, none⟩), .int .i64 a] w (GivePost w p m K bf gf B c a) := by
  obtain ⟨n, D, hnc, hU, hD⟩ := hM.used
  have hcm := hM.cmap
  have hh : Maps.has D (.int .i64 a) = false := by
    cases hh : Maps.has D (.int .i64 a)
    · rfl
    · obtain ⟨k, i, hb, e⟩ := (hD.key a).1 hh
      exact absurd e (hno k i hb)
  have HM := hid hM
  have HU := hid hU
  have HN := hid hno
  clear hU hD hM hno
  go_enter Tryz.func131, Tryz.ntmps131
  go_wp2_with (first | (at_lookup; refine wpList_lookup_own_ok_int _ rfl _ _ 102 rfl 3 3 .i64 law3 Tryz.underlying102 Tryz.underlying3 (zero3 _) m n D rfl HU.out _ _ rfl (keyOf_int_mk Tryz.underlying3 ha) ?_; intro v hat hwv; clear hat) | go_in)
  go_ret
  exact ⟨_, rfl, Turn.refl _ _, .inl ⟨rfl, HN.out, HM.out⟩⟩

set_option maxHeartbeats 1000000 in
set_option maxRecDepth 100000 in
theorem give_some (w : World) (p m K : Nat) (bf gf : Nat → Nat) (B : St) (c k i : Nat) (hM : Mem w p m K bf gf B c) (hi : Inv K B) (hn : NoHeld B) (hb : B k i = .used) :
    Calls Tryz.prog 131 #[.pointer (some ⟨p, 0, none⟩), .int .i64 (addr k i)] w (GivePost w p m K bf gf B c (addr k i)) := by
  obtain ⟨n, D, hnc, hU, hD⟩ := hM.used
  have hcm := hM.cmap
  have hK := hM.small
  obtain ⟨hkK, hiK⟩ := hi.inn k i (by rw [hb]; simp)
  have hal : i * 2 ^ k ≤ 1048576 := by
    have h2 : i * 2 ^ k ≤ 2 ^ (K - k) * 2 ^ k := Nat.mul_le_mul_right _ (by omega)
    rw [← Nat.pow_add] at h2
    have := pow_le20 (show K - k + k ≤ 20 by omega)
    omega
  have ha : (Lit.int .i64 (addr k i)).wf = true := wf_i64 (by unfold addr; omega) (by unfold addr; omega)
  have hh : Maps.has D (.int .i64 (addr k i)) = true := (hD.key _).2 ⟨k, i, hb, rfl⟩
  have hv : ∀ z, D.atKey (.int .i64 (addr k i)) z = .lit (.int .i64 (k : Int)) := hD.val k i hb
  obtain ⟨B1, hi1, hh1, hu1, hf1⟩ := pick_step hi hn hb
  have hdel := hD.del hi hb hu1
  have hdv := addr_div k i
  have hsb : (0 : Int) < ((1024 * 2 ^ k : Nat) : Int) := by have := Nat.two_pow_pos k; omega
  have hsb2 : ((1024 * 2 ^ k : Nat) : Int) ≤ 1073741824 := by have := pow_le20 (show k ≤ 20 by omega); omega
  have hab : 0 ≤ addr k i ∧ addr k i ≤ 1073741824 := by unfold addr; omega
  have hib : i < 1048576 := Nat.lt_of_lt_of_le hiK (pow_le20 (by omega))
  have HM := hid hM
  have HU := hid hU
  have HV := hid hv
  have HD := hid hdel
  have HB := hid hb
  have H1 := hid (And.intro hi1 (And.intro hh1 (And.intro hu1 hf1)))
  obtain ⟨a, haa⟩ : ∃ a, a = addr k i := ⟨_, rfl⟩
  obtain ⟨s, hs⟩ : ∃ s : Int, s = ((1024 * 2 ^ k : Nat) : Int) := ⟨_, rfl⟩
  rw [← haa] at ha hh hab hdv
  rw [← hs] at hdv hsb hsb2
  have HA := hid haa
  have HS := hid hs
  rw [← haa]
  obtain ⟨ha0, ha1⟩ := hab
  have hs0 : (s == 0) = false := by simp; omega
  have hdv' : a.tdiv s = (i : Int) := by rw [Int.tdiv_eq_ediv_of_nonneg ha0]; exact hdv
  clear hU hD hM hi hn hb hv hdel hi1 hh1 hu1 hf1 haa hs hal
  go_enter Tryz.func131, Tryz.ntmps131
  go_wp2_with (first
    | (at_lookup; refine wpList_lookup_own_ok_int _ rfl _ _ 102 rfl 3 3 .i64 law3 Tryz.underlying102 Tryz.underlying3 (zero3 _) m n D rfl HU.out _ _ rfl (keyOf_int_mk Tryz.underlying3 ha) ?_; intro v hat hwv; rw [HA.out, HV.out] at hat; obtain rfl : (k : Int) = v := (by simpa using hat); clear hat hwv)
    | (at_delete; refine wpList_delete_own _ rfl _ _ 102 3 rfl 3 law3 Tryz.underlying102 _ m n D rfl HU.out _ _ rfl (keyOf_int_mk Tryz.underlying3 ha) ?_; intro w1 hU1 hturn1; have HU1 := hid hU1; have HT1 := hid hturn1; clear hU1 hturn1))
  refine (bytesOf_any k _ (by omega)).mono ?_
  rintro e w2 ⟨rfl, rfl⟩
  rw [← HS.out]
  have hm1 : Hid (Mem w2 p m K bf gf B1 c) := by
    have hmm := HM.out
    have hg := HT1.out.grown
    have hoth : ∀ x, x < w.heap.size → x ≠ m → w2.heap[x]? = w.heap[x]? := fun x hx hne => hg.block x hx (by simpa using hne)
    refine ⟨by rw [hoth p hmm.lp hmm.pm]; exact hmm.head, fun k' hk' => ?_, ⟨n, _, hnc, HU1.out, by rw [HA.out]; exact HD.out⟩, hmm.small, hmm.pm, hmm.bg, hmm.gg, hmm.gp, hmm.gm, hmm.bm⟩
    obtain ⟨ws, hBt, hw⟩ := hmm.maps k' hk'
    refine ⟨ws, ⟨by rw [hoth _ hBt.lt.1 (hmm.bm k' hk')]; exact hBt.head, by rw [hoth _ hBt.lt.2 (hmm.gm k' hk')]; exact hBt.body, hBt.unlike, hBt.small, hBt.ok⟩, fun j hj => ?_⟩
    rw [H1.out.2.2.2 k' j]; exact hw j hj
  have ht1 : Turn (Own m K gf) w w2 := Turn.of_grown HT1.out.grown (fun j hj => by cases hj; exact .inl (.inl rfl))
  clear HU HD HT1 HU1 HV hcm
  go_wp2_with fail
  go_loopw [5, 7] (fun t5 t7 wr => ∃ kk ii : Nat, kk ≤ K ∧ t5 = .int .i64 (kk : Int) ∧ t7 = .int .i64 (ii : Int) ∧ (∃ B', Hid (Inv K B' ∧ HeldAt B' kk ii ∧ SameUsed B1 B' ∧ Mem wr p m K bf gf B' c)) ∧ Turn (Own m K gf) w wr) (fun t5 _ _ => K - (intOf t5).toNat)
  case atStart => exact ⟨k, i, hkK, rfl, rfl, ⟨B1, H1.out.1, H1.out.2.1, SameUsed.refl _, hm1.out⟩, ht1⟩
  case round =>
    obtain ⟨kk, ii, hkk, rfl, rfl, ⟨B', hB'⟩, htr⟩ := hrel
    clear hm1 ht1
    have hheld : B' kk ii = .held := (hB'.out.2.1 _ _).2 ⟨rfl, rfl⟩
    have hii := (hB'.out.1.inn kk ii (by rw [hheld]; simp)).2
    have hiib : ii < 1048576 := Nat.lt_of_lt_of_le hii (pow_le20 (by omega))
    have hcp := hB'.out.2.2.2.cptr kk hkk
    have hk21 : kk < 21 := by omega
    have hx1 := xor_one ii hiib
    clear hheld
    go_wp2_with fail
    refine (mem_get hB'.out.2.2.2 hB'.out.1 kk (bud ii) hkk).mono ?_
    rintro e w3 ⟨rfl, q, rfl⟩
    by_cases hfree : B' kk (bud ii) = .free
    · rw [decide_eq_true hfree]
      obtain ⟨B2, hi2, hh2, hs2, hf2⟩ := join_step hB'.out.1 hB'.out.2.1 hfree
      have hbb := (hB'.out.1.inn kk (bud ii) (by rw [hfree]; simp)).2
      have hk1 : kk + 1 ≤ K := (hi2.inn (kk + 1) (ii / 2) (by rw [(hh2 _ _).2 ⟨rfl, rfl⟩]; simp)).1
      have HS2 := hid (And.intro hi2 (And.intro hh2 (And.intro hs2 hf2)))
      have hcp3 : (wr.drewN q).cell? ⟨p, 1 + kk, none⟩ = some (.pointer (some ⟨bf kk, 0, none⟩)) := (hB'.out.2.2.2.drewN q).cptr kk hkk
      clear hi2 hh2 hs2 hf2 hfree
      go_wp2_with fail
      refine (mem_set ((hB'.out.2.2.2.drewN q).alloc _) false kk (bud ii) (wr.drewN q).heap.size hkk hbb (heap_alloc_new _ _) (by have := ((hB'.out.2.2.2.drewN q).lb kk hkk).2; omega)).mono ?_
      rintro e w4 ⟨⟨t, rfl⟩, hb4, hmem⟩
      have hm4 := hid (hmem B2 (fun k' j' => by
        rw [HS2.out.2.2.2 k' j']
        by_cases e : k' = kk ∧ j' = bud ii
        · simp [e]
        · simp [e]) HS2.out.2.2.1)
      have ht4 : Turn (Own m K gf) w w4 := ((htr.drewN q).alloc _).then hb4 (.inl (.inr ⟨kk, hkk, rfl⟩))
      clear hb4 hmem
      go_wp2_with fail
      exact ⟨⟨kk + 1, ii / 2, hk1, by go_num, by go_num, ⟨B2, HS2.out.1, HS2.out.2.1, hB'.out.2.2.1.trans HS2.out.2.2.1, hm4.out⟩, ht4⟩, by simp [intOf]; omega⟩
    · rw [decide_eq_false hfree]
      obtain ⟨B2, hi2, hh2, hs2, hf2⟩ := free_step hB'.out.1 hB'.out.2.1 hfree
      have HS2 := hid (And.intro hi2 (And.intro hh2 (And.intro hs2 hf2)))
      have hcp3 : (wr.drewN q).cell? ⟨p, 1 + kk, none⟩ = some (.pointer (some ⟨bf kk, 0, none⟩)) := (hB'.out.2.2.2.drewN q).cptr kk hkk
      clear hi2 hh2 hs2 hf2 hfree
      go_wp2_with fail
      refine (mem_set ((hB'.out.2.2.2.drewN q).alloc _) true kk ii (wr.drewN q).heap.size hkk hii (heap_alloc_new _ _) (by have := ((hB'.out.2.2.2.drewN q).lb kk hkk).2; omega)).mono ?_
      rintro e w4 ⟨⟨t, rfl⟩, hb4, hmem⟩
      have hm4 := hid (hmem B2 (fun k' j' => by
        rw [HS2.out.2.2.2 k' j']
        by_cases e : k' = kk ∧ j' = ii
        · simp [e]
        · simp [e]) HS2.out.2.2.1)
      have ht4 : Turn (Own m K gf) w w4 := ((htr.drewN q).alloc _).then hb4 (.inl (.inr ⟨kk, hkk, rfl⟩))
      clear hb4 hmem
      go_wp2_with fail
      go_ret
      refine ⟨_, rfl, ht4, .inr ⟨k, i, B2, rfl, HB.out, HA.out, fun k' i' => ?_, HS2.out.1, HS2.out.2.1, hm4.out⟩⟩
      rw [← HS2.out.2.2.1 k' i', ← hB'.out.2.2.1 k' i']
      exact H1.out.2.2.1 k' i'

theorem give_any (w : World) (p m K : Nat) (bf gf : Nat → Nat) (B : St) (c : Nat) (a : Int) (hM : Mem w p m K bf gf B c) (hi : Inv K B) (hn : NoHeld B) (ha : (Lit.int .i64 a).wf = true) :
    Calls Tryz.prog 131 #[.pointer (some ⟨p, 0, none⟩), .int .i64 a] w (GivePost w p m K bf gf B c a) := by
  by_cases h : ∃ k i, B k i = .used ∧ a = addr k i
  · obtain ⟨k, i, hb, rfl⟩ := h
    exact give_some w p m K bf gf B c k i hM hi hn hb
  · exact give_none w p m K bf gf B c a hM ha (fun k i hb e => h ⟨k, i, hb, e⟩)
end Go.Proofs.YtdmnemgooagehaaGreatDoor

namespace Go.Proofs
open Go.Shelf Go.RowKit Go.Lib Go.Sort
def Tryz.sortB_ren : Go.Shelf.Ren := ⟨fun | 6 => 137 | 15 => 149 | 14 => 150 | 28 => 161 | 29 => 162 | 20 => 163 | 21 => 164 | 22 => 165 | 23 => 166 | 24 => 167 | 25 => 168 | 26 => 169 | 27 => 170 | 46 => 176 | 47 => 172 | 48 => 173 | 49 => 177 | 50 => 178 | 57 => 180 | n => n, fun | 22 => 50 | 24 => 132 | 25 => 192 | 3 => 3 | 39 => 101 | 0 => 0 | 53 => 174 | 55 => 72 | 4 => 4 | 46 => 204 | 45 => 203 | 50 => 198 | 5 => 5 | 9 => 9 | 66 => 214 | 70 => 218 | 76 => 222 | 77 => 43 | n => n, fun | n => n⟩
theorem Tryz.sortB : Go.Proofs.SlLaysF0.n6 Tryz.prog Tryz.sortB_ren := {
  mixed := by kernel_rfl
  f6 := ⟨Tryz.f137.name, by decide, Tryz.func137.trans (congrArg some (by kernel_rfl))⟩
  f14 := ⟨Tryz.f150.name, by decide, Tryz.func150.trans (congrArg some (by kernel_rfl))⟩
  f15 := Tryz.func149.trans (congrArg some (by kernel_rfl))
  f20 := ⟨Tryz.f163.name, by decide, Tryz.func163.trans (congrArg some (by kernel_rfl))⟩
  f21 := ⟨Tryz.f164.name, by decide, Tryz.func164.trans (congrArg some (by kernel_rfl))⟩
  f22 := ⟨Tryz.f165.name, by decide, Tryz.func165.trans (congrArg some (by kernel_rfl))⟩
  f23 := ⟨Tryz.f166.name, by decide, Tryz.func166.trans (congrArg some (by kernel_rfl))⟩
  f24 := ⟨Tryz.f167.name, by decide, Tryz.func167.trans (congrArg some (by kernel_rfl))⟩
  f25 := ⟨Tryz.f168.name, by decide, Tryz.func168.trans (congrArg some (by kernel_rfl))⟩
  f26 := ⟨Tryz.f169.name, by decide, Tryz.func169.trans (congrArg some (by kernel_rfl))⟩
  f27 := ⟨Tryz.f170.name, by decide, Tryz.func170.trans (congrArg some (by kernel_rfl))⟩
  f28 := Tryz.func161.trans (congrArg some (by kernel_rfl))
  f29 := Tryz.func162.trans (congrArg some (by kernel_rfl))
  f46 := ⟨Tryz.f176.name, by decide, Tryz.func176.trans (congrArg some (by kernel_rfl))⟩
  f47 := Tryz.func172.trans (congrArg some (by kernel_rfl))
  f48 := Tryz.func173.trans (congrArg some (by kernel_rfl))
  f49 := ⟨Tryz.f177.name, by decide, Tryz.func177.trans (congrArg some (by kernel_rfl))⟩
  f50 := ⟨Tryz.f178.name, by decide, Tryz.func178.trans (congrArg some (by kernel_rfl))⟩
  f57 := ⟨Tryz.f180.name, by decide, Tryz.func180.trans (congrArg some (by kernel_rfl))⟩
  t0 := Tryz.underlying0
  a0 := Tryz.isAgg0
  z0 := Tryz.sizeOf0
  v0 := Tryz.zeroValue0
  t3 := Tryz.underlying3
  a3 := Tryz.isAgg3
  z3 := Tryz.sizeOf3
  v3 := Tryz.zeroValue3
  t4 := Tryz.underlying4
  a4 := Tryz.isAgg4
  z4 := Tryz.sizeOf4
  v4 := Tryz.zeroValue4
  t5 := Tryz.underlying5
  a5 := Tryz.isAgg5
  z5 := Tryz.sizeOf5
  v5 := Tryz.zeroValue5
  t9 := Tryz.underlying9
  a9 := Tryz.isAgg9
  z9 := Tryz.sizeOf9
  v9 := Tryz.zeroValue9
  t22 := Tryz.underlying50
  a22 := Tryz.isAgg50
  z22 := Tryz.sizeOf50
  v22 := Tryz.zeroValue50
  t25 := Tryz.underlying192
  a25 := Tryz.isAgg192
  z25 := Tryz.sizeOf192
  v25 := Tryz.zeroValue192
  t39 := Tryz.underlying101
  a39 := Tryz.isAgg101
  z39 := Tryz.sizeOf101
  v39 := Tryz.zeroValue101
  t45 := Tryz.underlying203
  a45 := Tryz.isAgg203
  z45 := Tryz.sizeOf203
  v45 := Tryz.zeroValue203
  t46 := Tryz.underlying204
  a46 := Tryz.isAgg204
  z46 := Tryz.sizeOf204
  v46 := Tryz.zeroValue204
  t50 := Tryz.underlying198
  a50 := Tryz.isAgg198
  z50 := Tryz.sizeOf198
  v50 := Tryz.zeroValue198
  t53 := Tryz.underlying174
  a53 := Tryz.isAgg174
  z53 := Tryz.sizeOf174
  v53 := Tryz.zeroValue174
  t55 := Tryz.underlying72
  a55 := Tryz.isAgg72
  z55 := Tryz.sizeOf72
  v55 := Tryz.zeroValue72
  t66 := Tryz.underlying214
  a66 := Tryz.isAgg214
  z66 := Tryz.sizeOf214
  v66 := Tryz.zeroValue214
  t70 := Tryz.underlying218
  a70 := Tryz.isAgg218
  z70 := Tryz.sizeOf218
  v70 := Tryz.zeroValue218
  t76 := Tryz.underlying222
  a76 := Tryz.isAgg222
  z76 := Tryz.sizeOf222
  v76 := Tryz.zeroValue222
  t77 := Tryz.underlying43
  a77 := Tryz.isAgg43
  z77 := Tryz.sizeOf43
  v77 := Tryz.zeroValue43 }
end Go.Proofs
namespace Go.Proofs.YtdmnemgooagehaaGreatDoor
open Go.Shelf Go.RowKit Go.Lib Go.Sort Go.Maps

/-- A block's two cells. -/
def encB (x : Nat × Nat) : List Value := [.int .i64 ((x.1 * 1024 : Nat) : Int), .int .i64 (x.2 : Int)]
def bcells (L : List (Nat × Nat)) : List Value := L.flatMap encB
theorem bcells_length (L : List (Nat × Nat)) : (bcells L).length = L.length * 2 := by
  induction L with
  | nil => rfl
  | cons a L ih => simp [bcells, encB] at *; omega
theorem bcells_get : ∀ (L : List (Nat × Nat)) (t : Nat), t < L.length * 2 → (bcells L)[t]? = some (encB L[t / 2]!)[t % 2]!
  | [], t, h => by simp at h
  | a :: L, 0, _ => rfl
  | a :: L, 1, _ => rfl
  | a :: L, t + 2, h => by
    have h1 : (bcells (a :: L))[t + 2]? = (bcells L)[t]? := rfl
    rw [h1, bcells_get L t (by simp at h; omega), show (t + 2) / 2 = t / 2 + 1 from by omega, show (t + 2) % 2 = t % 2 from by omega]
    rfl
theorem flatB (L : List (Nat × Nat)) : (flatK encB 2 L.toArray).toList = bcells L := by
  apply List.ext_getElem?
  intro t
  by_cases ht : t < L.length * 2
  · rw [bcells_get L t ht, Array.getElem?_toList, Array.getElem?_eq_getElem (by simpa using ht), ← getElem!_pos _ t (by simpa using ht), get_flatK _ _ _ _ (by simpa using ht)]
    simp
  · rw [List.getElem?_eq_none (by simp; omega), List.getElem?_eq_none (by rw [bcells_length]; omega)]

theorem isNaN_any (x : Int) (w : World) : Calls Tryz.prog 151 #[.int .i64 x] w fun e w' => e = .returned (.bool false) ∧ w' = w := by
  go_enter Tryz.func151, Tryz.ntmps151
  go_wp2
  go_ret
  exact ⟨ret_bool (by simp), rfl⟩

theorem compare_any (x y : Int) (w : World) : Calls Tryz.prog 139 #[.int .i64 x, .int .i64 y] w fun e w' => e = .returned (.int .i64 (Lib.compareInt x y)) ∧ w' = w := by
  unfold Lib.compareInt
  by_cases h1 : x < y
  · rw [if_pos h1]
    go_enter Tryz.func139, Tryz.ntmps139
    go_wp2_with (go_at_call 151; refine (isNaN_any _ _).mono ?_; rintro e w' ⟨rfl, rfl⟩)
    go_ret
    exact ⟨rfl, rfl⟩
  · by_cases h2 : y < x
    · rw [if_neg h1, if_pos h2]
      go_enter Tryz.func139, Tryz.ntmps139
      go_wp2_with (go_at_call 151; refine (isNaN_any _ _).mono ?_; rintro e w' ⟨rfl, rfl⟩)
      go_ret
      exact ⟨rfl, rfl⟩
    · rw [if_neg h1, if_neg h2]
      go_enter Tryz.func139, Tryz.ntmps139
      go_wp2_with (go_at_call 151; refine (isNaN_any _ _).mono ?_; rintro e w' ⟨rfl, rfl⟩)
      go_ret
      exact ⟨rfl, rfl⟩

def cmpB (x y : Nat × Nat) : Int := Lib.compareInt ((x.1 * 1024 : Nat) : Int) ((y.1 * 1024 : Nat) : Int)
theorem ltB (x y : Nat × Nat) : ltOf cmpB x y = decide (x.1 < y.1) := by
  unfold ltOf cmpB Lib.compareInt
  by_cases h1 : x.1 < y.1
  · rw [if_pos (by omega)]; simp [h1]
  · by_cases h2 : y.1 < x.1
    · rw [if_neg (by omega), if_pos (by omega)]; simp [h1]
    · rw [if_neg (by omega), if_neg (by omega)]; simp [h1]
theorem swoB : SWO (ltOf cmpB) where
  irrefl x := by rw [ltB]; simp
  trans x y z h1 h2 := by rw [ltB] at *; simp at *; omega
  ntrans x y z h1 h2 := by rw [ltB] at *; simp at *; omega

set_option maxRecDepth 100000 in
set_option maxHeartbeats 1000000 in
theorem closure49 (x y : Nat × Nat) (W : World) : Calls Tryz.prog 138 #[.agg (encB x).toArray, .agg (encB y).toArray] W fun e w' => e = .returned (.int .i64 (cmpB x y)) ∧ ∃ q os', w' = grow (W.drewN q) os' := by
  have hcon := fun W' => compare_any ((x.1 * 1024 : Nat) : Int) ((y.1 * 1024 : Nat) : Int) W'
  unfold encB cmpB
  generalize ((x.1 * 1024 : Nat) : Int) = a at *
  generalize ((y.1 * 1024 : Nat) : Int) = b at *
  generalize Lib.compareInt a b = r at hcon ⊢
  go_enter Tryz.func138, Tryz.ntmps138
  go_wp2_with (go_at_call 139; refine (hcon _).mono ?_; rintro e w' ⟨rfl, rfl⟩)
  go_ret
  exact ⟨rfl, 0, _, by rw [alloc_eq_grow, alloc_eq_grow, grow_grow]; rfl⟩

theorem cmpLays49 (blk off size : Nat) (w : World) : CmpLays Tryz.prog 138 #[] encB 2 cmpB blk off size w := fun _ _ _ _ x y => closure49 x y _
theorem isAgg44 (w : World) : (isAgg 132).run Tryz.prog w = .ok true w := by kernel_rfl
theorem sizeOf44 (w : World) : (Go.sizeOf 132).run Tryz.prog w = .ok 2 w := by kernel_rfl

set_option maxHeartbeats 1000000 in
theorem sort_none (a : Option Addr) (cap : Nat) (w : World) : Calls Tryz.prog 89 #[.slice a 0 cap] w fun e w' => e = .returned (.tuple #[]) ∧ w' = w := by
  have hcon := fun fv w => AnyF.slices_SortFunc_none Tryz.sortB a cap fv w
  change ∀ fv w, Calls Tryz.prog 137 _ _ _ at hcon
  go_enter Tryz.func89, Tryz.ntmps89
  go_wp2_with (go_at_call 137; refine (hcon _ _).mono ?_; rintro e w' ⟨rfl, rfl⟩)
  go_end0
  exact ⟨rfl, rfl⟩

theorem heap_sortedB {w : World} {g n : Nat} {os : Array Obj} {cur : Array Value} {e : TypeId} {fr : Nat × Nat} (d : Array (Nat × Nat)) (hb : w.heap[g]? = some (.cells cur e fr)) :
    (sortWorldK encB 2 w g 0 n d os).heap[g]? = some (.cells (putCells id 0 (flatK encB 2 d) cur) e fr) := by
  have hg : g < w.heap.size := (Array.getElem?_eq_some_iff.1 hb).1
  unfold sortWorldK putRowK
  rw [heap_grow_old _ _ (by simpa using hg)]
  simp [putRow, mapBlock, Sort.ahead, Array.getElem?_modify, hb, onCells]
theorem grownBy_sortedB {w : World} {g n : Nat} {os : Array Obj} (d : Array (Nat × Nat)) : w.grownBy (sortWorldK encB 2 w g 0 n d os) (some g) := by
  unfold sortWorldK putRowK
  refine ⟨rfl, rfl, rfl, by simp, fun k hk hne => ?_⟩
  rw [heap_grow_old _ _ (by simpa using hk)]
  have : g ≠ k := fun e => hne (by rw [e])
  simp [putRow, mapBlock, Sort.ahead, Array.getElem?_modify, this]
theorem take_putB (cur : Array Value) (F : Array Value) (h : F.size ≤ cur.size) : (putCells id 0 F cur).toList.take F.size = F.toList := by
  apply List.ext_getElem?
  intro j
  by_cases hj : j < F.size
  · rw [List.getElem?_take_of_lt hj, Array.getElem?_toList]
    simp [putCells, hj, show j < cur.size by omega]
  · rw [List.getElem?_take_eq_none (by omega), List.getElem?_eq_none (by simp; omega)]

def SortPost (base : Nat) (v : Value) (L : List (Nat × Nat)) (w : World) (e : Ending) (w' : World) : Prop :=
  e = .returned (.tuple #[]) ∧ ∃ L' : List (Nat × Nat), L'.Perm L ∧ L'.Pairwise (fun a b => a.1 ≤ b.1) ∧ w'.ownsRow base 132 2 v L.length (bcells L') ∧ w.grownBy w' v.ownBlock

set_option maxHeartbeats 1000000 in
set_option maxRecDepth 100000 in
theorem sort_any (base : Nat) (v : Value) (L : List (Nat × Nat)) (w : World) (hown : w.ownsRow base 132 2 v L.length (bcells L)) (hl : L.length ≤ 100000000) :
    Calls Tryz.prog 89 #[v] w (SortPost base v L w) := by
  rcases hown.2 with ⟨rfl, h0⟩ | ⟨g, cap, cur, rfl, hbase, hb, h1, h2, h3, h4⟩
  · refine (sort_none none 0 w).mono ?_
    rintro e w' ⟨rfl, rfl⟩
    obtain rfl := List.eq_nil_of_length_eq_zero h0
    exact ⟨rfl, [], List.Perm.refl _, List.Pairwise.nil, hown, ⟨rfl, rfl, rfl, Nat.le_refl _, fun _ _ _ => rfl⟩⟩
  · have hH : HoldsK encB 2 w g 0 L.toArray := by
      intro j hj
      have hj' : j < L.length * 2 := by simpa using hj
      refine ⟨?_, by simp [World.frozen?, hb]⟩
      have e1 : cur[j]? = (bcells L)[j]? := by rw [← h4, List.getElem?_take_of_lt hj', Array.getElem?_toList]
      rw [Nat.zero_add, cell_of_row w g j _ _ _ hb, e1, ← flatB, Array.getElem?_toList, Array.getElem?_eq_getElem hj, getElem!_pos _ j hj]
      rfl
    have hgl := (Array.getElem?_eq_some_iff.1 hb).1
    have eg : ∀ args w, (callFunc 138 args).run Tryz.prog w = .ok (.enter 138 args) w := enters_of Tryz.func138 (by kernel_rfl) rfl
    have hcon := AnyQ.slices_SortFunc Tryz.sortB 2 isAgg44 sizeOf44 encB (fun _ => rfl) (fun x v hv => by simp [encB] at hv; rcases hv with rfl | rfl <;> rfl) cmpB swoB 138 #[] g 0 cap L.toArray w eg (cmpLays49 g 0 _ w) hH hgl (by simp; omega)
    change Calls Tryz.prog 137 _ _ _ at hcon
    rw [List.size_toArray] at hcon
    have HB := hid hb
    have H4 := hid h4
    clear hH eg hown hb h4
    go_enter Tryz.func89, Tryz.ntmps89
    go_wp2_with (go_at_call 137; refine hcon.mono ?_; rintro e w' ⟨rfl, d', n, os, hp, hs, rfl⟩)
    go_end0
    have hsz : d'.size = L.length := by rw [hp.1]; simp
    refine ⟨rfl, d'.toList, ?_, ?_, ?_, grownBy_sortedB d'⟩
    · have := hp.2.2
      simpa [List.take_of_length_le (show d'.toList.length ≤ L.length by simp [hsz])] using this
    · rw [List.pairwise_iff_getElem]
      intro i j hi hj hij
      have := hs i j (Nat.zero_le _) hij (by simpa [hsz] using hj)
      rw [ltB, getElem!_pos d' i (by simpa using hi), getElem!_pos d' j (by simpa using hj)] at this
      have h5 := of_decide_eq_false this
      simp only [Array.getElem_toList]
      omega
    · refine ⟨by rw [bcells_length]; simp [hsz], .inr ⟨g, cap, _, rfl, hbase, heap_sortedB d' HB.out, h1, h2, by simp [putCells, h3], ?_⟩⟩
      have e2 : (flatK encB 2 d').size = L.length * 2 := by simp [hsz]
      rw [← e2, take_putB _ _ (by rw [e2, h3]; exact Nat.mul_le_mul_right _ h1), ← flatB]
end Go.Proofs.YtdmnemgooagehaaGreatDoor

namespace Go.Proofs.YtdmnemgooagehaaGreatDoor
open Go.RowKit Go.Maps

theorem Tab.pos {w : World} (h : Tab w) : 2 < w.heap.size := block_lt_of_cell (h 0 (by omega))
theorem Tab.below {w w' : World} {Bd : Nat} (h : Tab w) (hb : Below Bd w w') (h0 : 2 < Bd) : Tab w' := fun j hj => (hb.cell (p := ⟨2, j, none⟩) h0).trans (h j hj)
theorem Tab.same {w w' : World} (h : Tab w) (e : w'.heap = w.heap) : Tab w' := fun j hj => by
  rw [World.cell?_of_block (w := w) (by rw [e])]; exact h j hj
theorem Tab.drewN {w : World} (h : Tab w) (k : Nat) : Tab (w.drewN k) := h.same rfl

theorem info44 : (Tryz.prog.info? 132).map (fun i => (i.zero, i.size, i.bytes)) = some (some (.agg #[.int .i64 0, .int .i64 0]), 2, 16) := by kernel_rfl
theorem own_block {w : World} {base : Nat} {v : Value} {k : Nat} {xs : List Value} (h : w.ownsRow base 132 2 v k xs) : ∀ r, v.ownBlock = some r → base ≤ r := by
  rcases h.2 with ⟨rfl, _⟩ | ⟨g, cap, cur, rfl, hb, _⟩
  · intro r hr; cases hr
  · intro r hr
    have : g = r := by simpa [Value.ownBlock] using hr
    omega

/-- What was collected so far: the free blocks of the orders below k, and of k those at places below f. -/
structure Coll (B : St) (k f : Nat) (L : List (Nat × Nat)) : Prop where
  nodup : L.Nodup
  mem : ∀ p o, (p, o) ∈ L ↔ ∃ i, p = i * 2 ^ o ∧ B o i = .free ∧ (o < k ∨ o = k ∧ i < f)
  len : L.length ≤ k * 1048576 + f
theorem Coll.start (B : St) : Coll B 0 0 [] := ⟨List.nodup_nil, fun p o => by simp, by simp⟩
theorem Coll.step {B : St} {k f i : Nat} {L : List (Nat × Nat)} (h : Coll B k f L) (hf : f ≤ i) (hb : B k i = .free) (hn : ∀ j, f ≤ j → j < i → B k j ≠ .free) : Coll B k (i + 1) (L ++ [(i * 2 ^ k, k)]) := by
  refine ⟨?_, fun p o => ?_, by have := h.len; simp; omega⟩
  · rw [List.nodup_append]
    refine ⟨h.nodup, by simp, fun a ha b hb' => ?_⟩
    rw [List.mem_singleton] at hb'
    subst hb'
    rintro rfl
    obtain ⟨j, e, hj, hc⟩ := (h.mem _ _).1 ha
    have : j = i := (Nat.eq_of_mul_eq_mul_right (Nat.two_pow_pos _) e).symm
    omega
  · rw [List.mem_append, h.mem, List.mem_singleton]
    constructor
    · rintro (⟨j, rfl, hj, hc⟩ | e)
      · exact ⟨j, rfl, hj, by omega⟩
      · obtain ⟨rfl, rfl⟩ : p = i * 2 ^ k ∧ o = k := by simpa using e
        exact ⟨i, rfl, hb, .inr ⟨rfl, by omega⟩⟩
    · rintro ⟨j, rfl, hj, hc⟩
      by_cases e : o = k ∧ j = i
      · obtain ⟨rfl, rfl⟩ := e; exact .inr rfl
      · refine .inl ⟨j, rfl, hj, ?_⟩
        rcases hc with hc | ⟨rfl, hc⟩
        · exact .inl hc
        · refine .inr ⟨rfl, ?_⟩
          apply Decidable.byContradiction
          intro hlt
          exact hn j (by omega) (by omega) hj
theorem len_next {l k f M : Nat} (h : l ≤ k * M + f) (hf : f ≤ M) : l ≤ (k + 1) * M + 0 := by
  rw [Nat.add_mul]; omega
theorem Coll.next {B : St} {k f : Nat} {L : List (Nat × Nat)} (h : Coll B k f L) (hf : f ≤ 1048576) (hn : ∀ j, f ≤ j → B k j ≠ .free) : Coll B (k + 1) 0 L := by
  refine ⟨h.nodup, fun p o => ?_, len_next h.len hf⟩
  rw [h.mem]
  constructor
  · rintro ⟨j, rfl, hj, hc⟩
    exact ⟨j, rfl, hj, .inl (by omega)⟩
  · rintro ⟨j, rfl, hj, hc⟩
    refine ⟨j, rfl, hj, ?_⟩
    by_cases e : o < k
    · exact .inl e
    · obtain rfl : o = k := by omega
      refine .inr ⟨rfl, ?_⟩
      apply Decidable.byContradiction
      intro hlt
      exact hn j (by omega) hj

/-- Whoever is among the used, or the free, by their pages. -/
theorem lst_of {K : Nat} {B : St} {x : Kind} {L L' : List (Nat × Nat)} (hi : Inv K B) (hx : x ≠ .no) (hn : L.Nodup) (hm : ∀ p o, (p, o) ∈ L ↔ ∃ i, p = i * 2 ^ o ∧ B o i = x) (hp : L'.Perm L) (hs : L'.Pairwise (fun a b => a.1 ≤ b.1)) : Lst B x L' := by
  have hm' : ∀ p o, (p, o) ∈ L' ↔ ∃ i, p = i * 2 ^ o ∧ B o i = x := fun p o => by rw [hp.mem_iff]; exact hm p o
  have hn' : L'.Nodup := hp.nodup_iff.2 hn
  refine ⟨?_, hm'⟩
  have hboth := List.Pairwise.and hs hn'
  refine hboth.imp_of_mem ?_
  rintro ⟨p, o⟩ ⟨q, o'⟩ ha hb ⟨h1, h2⟩
  apply Decidable.byContradiction
  intro h3
  have e : p = q := by simp at h1 h3; omega
  subst e
  obtain ⟨i, e1, b1⟩ := (hm' p o).1 ha
  obtain ⟨j, e2, b2⟩ := (hm' p o').1 hb
  obtain ⟨rfl, rfl⟩ := begins hi (by rw [b1]; exact hx) (by rw [b2]; exact hx) (e1.symm.trans e2)
  exact h2 rfl

def ListPost (B : St) (x : Kind) (w : World) (e : Ending) (w' : World) : Prop :=
  ∃ v L, e = .returned v ∧ Lst B x L ∧ L.length ≤ 100000000 ∧ w'.ownsRow w.heap.size 132 2 v L.length (bcells L) ∧ Below w.heap.size w w'

theorem free_nil (w : World) : Calls Tryz.prog 25 #[.pointer none] w fun e w' => e = .returned (.slice none 0 0) ∧ w' = w := by
  go_enter Tryz.func25, Tryz.ntmps25
  go_wp2
  go_ret
  exact ⟨rfl, rfl⟩
theorem left_nil (w : World) : Calls Tryz.prog 62 #[.pointer none] w fun e w' => e = .returned (.int .i64 0) ∧ w' = w := by
  go_enter Tryz.func62, Tryz.ntmps62
  go_wp2
  go_ret
  exact ⟨rfl, rfl⟩
theorem bcells_snoc (L : List (Nat × Nat)) (p k : Nat) : bcells (L ++ [(p, k)]) = bcells L ++ [.int .i64 ((p * 1024 : Nat) : Int), .int .i64 (k : Int)] := by simp [bcells, encB]

set_option maxHeartbeats 4000000 in
set_option maxRecDepth 100000 in
theorem free_any (w : World) (p m K : Nat) (bf gf : Nat → Nat) (B : St) (c : Nat) (hM : Mem w p m K bf gf B c) (hi : Inv K B) (hT : Tab w) :
    Calls Tryz.prog 25 #[.pointer (some ⟨p, 0, none⟩)] w (ListPost B .free w) := by
  have hK := hM.small
  have hl := hid hM.head
  have hpos := hT.pos
  have HM := hid hM
  have HI := hid hi
  have HT := hid hT
  obtain ⟨A, hA⟩ : ∃ A, ptrs (K + 1) bf = A := ⟨_, rfl⟩
  have HA := hid hA
  obtain ⟨i0, hi0, hz0, hz1, hz2⟩ := info_parts info44
  have HIF := hid (And.intro hi0 (And.intro hz0 (And.intro hz1 hz2)))
  clear hM hi hT hA hi0 hz0 hz1 hz2
  go_enter Tryz.func25, Tryz.ntmps25
  go_wp2_with (refine wpList_load56 rfl _ rfl p K (K + 1) bf m A rfl hl.out HA.out ?_)
  go_loopw [3, 13] (fun v i wr => ∃ k : Nat, k ≤ 21 ∧ i = .int .i64 k ∧ (∃ L, Hid (Coll B k 0 L ∧ wr.ownsRow w.heap.size 132 2 v L.length (bcells L))) ∧ Below w.heap.size w wr) (fun _ i _ => 21 - (intOf i).toNat)
  case atStart => exact ⟨0, by omega, rfl, ⟨[], Coll.start B, World.ownsRow_nil _ _ _ _⟩, Below.refl _ _⟩
  case round =>
    obtain ⟨k, hk, rfl, ⟨L, hL⟩, hX⟩ := hrel
    by_cases hlt : k < 21
    · have hx := fun wx => run_index56 (K + 1) bf k hlt wx
      rw [HA.out] at hx
      obtain ⟨pt, hpt⟩ : ∃ pt, pt = ptrOf (K + 1) bf k := ⟨_, rfl⟩
      rw [← hpt] at hx
      have hxr := hx wr
      have HPT := hid hpt
      clear hpt hx
      have hMr := hid (HM.out.below hX)
      have hTr := hid (HT.out.below hX hpos)
      go_wp2_with fail
      rw [HPT.out]
      refine (mem_first hMr.out HI.out hTr.out k 0 (.inr rfl) (by omega)).mono ?_
      rintro e w1 ⟨r, rfl, hr, rfl⟩
      rw [← HPT.out]
      have HR := hid hr
      clear hr
      go_wp2_with fail
      go_loopw [3, 6] (fun v t wq => ∃ (f : Nat) (r : Int), f ≤ 1048576 ∧ t = .int .i64 r ∧ Hid (FirstB B k f r ∧ (k ≤ K ∨ r = -1)) ∧ (∃ L, Hid (Coll B k f L ∧ wq.ownsRow w.heap.size 132 2 v L.length (bcells L))) ∧ Below w.heap.size w wq) (fun _ t _ => if intOf t < 0 then 0 else (1048577 - intOf t).toNat)
      case atStart =>
        refine ⟨0, r, by omega, rfl, ⟨HR.out, ?_⟩, ⟨L, hL.out⟩, hX⟩
        by_cases hkK : k ≤ K
        · exact .inl hkK
        · right
          rcases HR.out with ⟨h, _⟩ | ⟨i, _, _, hb, _⟩
          · exact h
          · have := (HI.out.inn k i (by rw [hb]; simp)).1; omega
      case round =>
        obtain ⟨f, r2, hf, rfl, hr, ⟨L2, hL2⟩, hX2⟩ := hrel
        clear HR hL hMr hTr hxr
        have hMq := hid (HM.out.below hX2)
        have hTq := hid (HT.out.below hX2 hpos)
        rcases hr.out.1 with ⟨rfl, hnone⟩ | ⟨i, rfl, hfi, hb, hbn⟩
        · have HC := hid (hL2.out.1.next hf hnone)
          clear hnone
          go_wp2_with fail
          exact ⟨⟨k + 1, by omega, by go_num, ⟨L2, HC.out, hL2.out.2⟩, hX2⟩, by simp [intOf]; omega⟩
        · have hkK : k ≤ K := by
            rcases hr.out.2 with h | h
            · exact h
            · omega
          have hib : i < 1048576 := Nat.lt_of_lt_of_le (HI.out.inn k i (by rw [hb]; simp)).2 (pow_le20 (by omega))
          have hal : i * 2 ^ k ≤ 1048576 := by
            have h1 := block_lt HI.out (k := k) (i := i) (by rw [hb]; simp)
            have := pow_le20 hK
            have := Nat.two_pow_pos k
            omega
          have HC := hid (hL2.out.1.step hfi hb hbn)
          have hlen2 := hL2.out.1.len
          clear hb hbn
          have hprod : (i : Int) * ((1024 * 2 ^ k : Nat) : Int) = ((i * 2 ^ k * 1024 : Nat) : Int) := by
            rw [← Int.natCast_mul]; congr 1; rw [Nat.mul_comm 1024, Nat.mul_assoc]
          obtain ⟨s, hs⟩ : ∃ s : Int, s = ((1024 * 2 ^ k : Nat) : Int) := ⟨_, rfl⟩
          rw [← hs] at hprod
          have HS := hid hs
          obtain ⟨z, hz⟩ : ∃ z, z = i * 2 ^ k := ⟨_, rfl⟩
          rw [← hz] at hprod HC hal
          have hsn := hid (bcells_snoc L2 z k)
          clear hs hz
          go_wp2_with fail
          refine (bytesOf_any k _ (by omega)).mono ?_
          rintro e w4 ⟨rfl, rfl⟩
          rw [← HS.out]
          go_wp2_with (first
            | (at_builtin; refine wpList_append_own _ rfl _ _ 50 rfl w.heap.size 132 i0 (.agg #[.int .i64 0, .int .i64 0]) 2 16 Tryz.underlying50 HIF.out.1 HIF.out.2.1 HIF.out.2.2.1 HIF.out.2.2.2 rfl (by decide) _ _ _ rfl (hL2.out.2.alloc _) ⟨w4.heap.size, 0, none⟩ 1 1 [.int .i64 ((z * 1024 : Nat) : Int), .int .i64 (k : Int)] rfl rfl ?c1 ?c2 ?c3 ?c4 ?c5 ?_)
            | fail)
          case c1 =>
            intro j u hj
            rw [addr_add, Nat.zero_add, cell_of_row _ _ _ _ _ _ (heap_alloc_new _ _), ← hj]
            match j, hj with
            | 0, _ => rfl
            | 1, _ => rfl
          case c2 =>
            intro u hu
            simp at hu
            rcases hu with rfl | rfl <;> rfl
          case c3 => unfold maxLen; omega
          case c4 => omega
          case c5 => have := hX2.size; simp; omega
          intro v' w5 hown' hgrow _
          have hX5 : Below w.heap.size w w5 := Below.grown (hX2.alloc hX2.size _) hgrow (by have := hX2.size; simp; omega) (own_block hL2.out.2)
          have HO : Hid (w5.ownsRow w.heap.size 132 2 v' (L2 ++ [(z, k)]).length (bcells (L2 ++ [(z, k)]))) := by
            rw [hsn.out, List.length_append]; exact hown'
          have hM5 := hid (HM.out.below hX5)
          have hT5 := hid (HT.out.below hX5 hpos)
          clear hown' hgrow hMq hTq hL2 hX2
          go_wp2_with fail
          rw [HPT.out, show (i : Int) + 1 = ((i + 1 : Nat) : Int) from by omega]
          refine (mem_first hM5.out HI.out hT5.out k (i + 1) (.inl hkK) (by omega)).mono ?_
          rintro e w6 ⟨r6, rfl, hr6, rfl⟩
          rw [← HPT.out]
          have HR6 := hid hr6
          have hmeas : (if r6 < 0 then 0 else (1048577 - r6).toNat) < (1048577 - (i : Int)).toNat := by
            rcases hr6 with ⟨h, _⟩ | ⟨i2, h, h2, _⟩
            · rw [if_pos (by omega)]; omega
            · rw [if_neg (by omega)]; omega
          clear hr6
          go_wp2_with fail
          refine ⟨⟨i + 1, r6, by omega, rfl, ⟨HR6.out, .inl hkK⟩, ⟨_, HC.out, HO.out⟩, hX5⟩, ?_⟩
          have hi0 : ¬ ((i : Int) < 0) := by omega
          simp only [intOf, hi0, if_false]
          exact hmeas
    · obtain rfl : k = 21 := by omega
      have hfin : Hid (L.Nodup ∧ (∀ p o, (p, o) ∈ L ↔ ∃ i, p = i * 2 ^ o ∧ B o i = .free) ∧ L.length ≤ 100000000) := by
        have hc := hL.out.1
        refine ⟨hc.nodup, fun q o => ?_, by have := hc.len; omega⟩
        rw [hc.mem]
        constructor
        · rintro ⟨i, rfl, hb, _⟩; exact ⟨i, rfl, hb⟩
        · rintro ⟨i, rfl, hb⟩
          have := (HI.out.inn o i (by rw [hb]; simp)).1
          exact ⟨i, rfl, hb, .inl (by omega)⟩
      go_wp2_with fail
      refine (sort_any w.heap.size _ L _ hL.out.2 hfin.out.2.2).mono ?_
      rintro e w3 ⟨rfl, L', hp, hs, hown, hg⟩
      have hlst := hid (lst_of HI.out (by simp) hfin.out.1 hfin.out.2.1 hp hs)
      have hlen := hp.length_eq
      have hX3 : Below w.heap.size w w3 := Below.grown hX hg hX.size (own_block hL.out.2)
      have HO := hid hown
      clear hown hg hp hs
      go_wp2_with fail
      go_ret
      exact ⟨_, L', rfl, hlst.out, by have := hfin.out.2.2; omega, by rw [hlen]; exact HO.out, hX3⟩

/-- What was collected so far: the used blocks that are no longer to come. -/
structure CollU (B : St) (left : Lit → Bool) (L : List (Nat × Nat)) : Prop where
  nodup : L.Nodup
  mem : ∀ p o, (p, o) ∈ L ↔ ∃ i, p = i * 2 ^ o ∧ B o i = .used ∧ left (.int .i64 (addr o i)) = false
theorem CollU.start {D : DataW Unit} {B : St} (h : Has D B) : CollU B (Maps.has D) [] := by
  refine ⟨List.nodup_nil, fun p o => ⟨fun h => (by cases h), ?_⟩⟩
  rintro ⟨i, rfl, hb, hl⟩
  have := (h.key _).2 ⟨o, i, hb, rfl⟩
  rw [hl] at this
  cases this
theorem CollU.step {K : Nat} {B : St} {left : Lit → Bool} {L : List (Nat × Nat)} (h : CollU B left L) (hi : Inv K B) {k i : Nat} (hb : B k i = .used) (hl : left (.int .i64 (addr k i)) = true) :
    CollU B (fun z => left z && !z.sameKey (.int .i64 (addr k i))) (L ++ [(i * 2 ^ k, k)]) := by
  refine ⟨?_, fun p o => ?_⟩
  · rw [List.nodup_append]
    refine ⟨h.nodup, by simp, fun a ha b hb' => ?_⟩
    rw [List.mem_singleton] at hb'
    subst hb'
    rintro rfl
    obtain ⟨j, e, hj, hc⟩ := (h.mem _ _).1 ha
    have : j = i := (Nat.eq_of_mul_eq_mul_right (Nat.two_pow_pos _) e).symm
    subst this
    rw [hl] at hc
    cases hc
  · rw [List.mem_append, h.mem, List.mem_singleton]
    constructor
    · rintro (⟨j, rfl, hj, hc⟩ | e)
      · exact ⟨j, rfl, hj, by rw [hc]; rfl⟩
      · obtain ⟨rfl, rfl⟩ : p = i * 2 ^ k ∧ o = k := by simpa using e
        exact ⟨i, rfl, hb, by simp [Lit.sameKey]⟩
    · rintro ⟨j, rfl, hj, hc⟩
      by_cases e : addr o j = addr k i
      · obtain ⟨rfl, rfl⟩ := addr_inj hi (by rw [hj]; simp) (by rw [hb]; simp) e
        exact .inr rfl
      · refine .inl ⟨j, rfl, hj, ?_⟩
        simpa [Lit.sameKey, e] using hc

end Go.Proofs.YtdmnemgooagehaaGreatDoor

namespace Go.Proofs.YtdmnemgooagehaaGreatDoor
open Go.RowKit Go.Maps

theorem onesU_any (x : Nat) (w : World) (hx : x < 18446744073709551616) :
    Calls Tryz.prog 63 #[.int .u64 (x : Int)] w fun e w' => e = .returned (.int .i64 (pop x : Int)) ∧ w' = w := by
  go_enter Tryz.func63, Tryz.ntmps63
  go_wp2_with (go_at_call 118; refine (ones_any x _ hx).mono ?_; rintro e w' ⟨rfl, rfl⟩)
  go_ret
  exact ⟨rfl, rfl⟩
theorem tzU_any (x : Nat) (w : World) (hx0 : x ≠ 0) (hx : x < 18446744073709551616) (hT : Tab w) :
    Calls Tryz.prog 64 #[.int .u64 (x : Int)] w fun e w' => e = .returned (.int .i64 (Lib.ctz 64 x : Int)) ∧ w' = w := by
  go_enter Tryz.func64, Tryz.ntmps64
  go_wp2_with (go_at_call 120; refine (tz_any x _ hx0 hx hT).mono ?_; rintro e w' ⟨rfl, rfl⟩)
  go_ret
  exact ⟨rfl, rfl⟩

theorem pop_pow : ∀ k : Fin 21, pop (1024 * 2 ^ k.val) = 1 := by decide +kernel
theorem ctz_pow : ∀ k : Fin 21, Lib.ctz 64 (2 ^ k.val) = k.val := by decide +kernel

theorem newB_small (s : Int) (w : World) (h : s < 65536) : Calls Tryz.prog 7 #[.int .i64 s] w fun e w' => e = .returned (.pointer none) ∧ w' = w := by
  go_enter Tryz.func7, Tryz.ntmps7
  go_wp2
  go_ret
  exact ⟨rfl, rfl⟩
theorem newB_great (s : Int) (w : World) (h : 1073741824 < s) : Calls Tryz.prog 7 #[.int .i64 s] w fun e w' => e = .returned (.pointer none) ∧ w' = w := by
  go_enter Tryz.func7, Tryz.ntmps7
  go_wp2
  go_ret
  exact ⟨rfl, rfl⟩
def zeros (n : Nat) : List Nat := List.replicate ((n + 63) / 64) 0
theorem zeros_bit (n j : Nat) : bit (zeros n) j = false := by
  unfold bit zeros
  rw [List.getElem?_replicate]
  split <;> simp

/-- The allocator under way: j of its maps are there. -/
structure Part (w : World) (base p m K j : Nat) (bf gf : Nat → Nat) : Prop where
  head : w.heap[p]? = some (.cells (budCells K j bf m) 106)
  maps : ∀ k, k < j → Bits w (bf k) (gf k) (2 ^ (K - k)) (zeros (2 ^ (K - k)))
  used : Umap w m 0 (.map [])
  pm : p ≠ m
  bg : ∀ k k', k < j → k' < j → bf k ≠ gf k'
  gg : ∀ k k', k < j → k' < j → gf k = gf k' → k = k'
  gp : ∀ k, k < j → gf k ≠ p
  gm : ∀ k, k < j → gf k ≠ m
  bm : ∀ k, k < j → bf k ≠ m
  bp : base ≤ p
  bmm : base ≤ m
  bb : ∀ k, k < j → base ≤ bf k ∧ base ≤ gf k

theorem Part.lp {w : World} {base p m K j : Nat} {bf gf : Nat → Nat} (h : Part w base p m K j bf gf) : p < w.heap.size := (Array.getElem?_eq_some_iff.1 h.head).1
theorem Part.lm {w : World} {base p m K j : Nat} {bf gf : Nat → Nat} (h : Part w base p m K j bf gf) : m < w.heap.size := h.used.lt

theorem ptrs_set (j : Nat) (bf : Nat → Nat) (b : Nat) (hj : j < 21) : (ptrs j bf).setIfInBounds j (.pointer (some ⟨b, 0, none⟩)) = ptrs (j + 1) (fun k => if k = j then b else bf k) := by
  apply Array.ext_getElem?
  intro k
  rw [Array.getElem?_setIfInBounds]
  by_cases hk : k < 21
  · by_cases e : j = k
    · subst e
      rw [if_pos rfl, if_pos (by rw [ptrs_size]; exact hj), ptrs_get _ _ _ hk, ptrOf, if_pos (by omega), if_pos rfl]
    · rw [if_neg e, ptrs_get _ _ _ hk, ptrs_get _ _ _ hk]
      unfold ptrOf
      by_cases h2 : k < j
      · rw [if_pos h2, if_pos (by omega)]
        simp only [show ¬ k = j from by omega, if_false]
      · rw [if_neg h2, if_neg (by omega)]
  · rw [if_neg (by omega), Array.getElem?_eq_none (by rw [ptrs_size]; omega), Array.getElem?_eq_none (by rw [ptrs_size]; omega)]
theorem budCells_set (K j : Nat) (bf : Nat → Nat) (m b : Nat) (hj : j < 21) : (budCells K j bf m).setIfInBounds (1 + j) (.pointer (some ⟨b, 0, none⟩)) = budCells K (j + 1) (fun k => if k = j then b else bf k) m := by
  unfold budCells
  rw [Array.setIfInBounds_append_left (by simp [ptrs]; omega), Array.setIfInBounds_append_right (by simp)]
  simp only [List.size_toArray, List.length_cons, List.length_nil, Nat.zero_add, Nat.add_sub_cancel_left]
  rw [ptrs_set j bf b hj]

/-- One map more. -/
theorem Part.next {w w' : World} {base p m K j : Nat} {bf gf : Nat → Nat} (h : Part w base p m K j bf gf) (hj : j ≤ K) (hK : K ≤ 20) (hbase : base ≤ w.heap.size) {b g : Nat} (hB : Bits w' b g (2 ^ (K - j)) (zeros (2 ^ (K - j)))) (hb : Below w.heap.size w w') (h1 : w.heap.size ≤ b) (h2 : w.heap.size ≤ g) :
    Part (w'.setCell ⟨p, 1 + j, none⟩ (.pointer (some ⟨b, 0, none⟩))) base p m K (j + 1) (fun k => if k = j then b else bf k) (fun k => if k = j then g else gf k) := by
  have hp := h.lp
  have hm := h.lm
  have hlt : ∀ k, k < j → bf k < w.heap.size ∧ gf k < w.heap.size := fun k hk => (h.maps k hk).lt
  have hoth : ∀ x, x ≠ p → (w'.setCell ⟨p, 1 + j, none⟩ (.pointer (some ⟨b, 0, none⟩))).heap[x]? = w'.heap[x]? := fun x hx => Below.heap_setCell _ _ _ _ hx
  refine ⟨?_, fun k hk => ?_, ?_, h.pm, fun k k' hk hk' => ?_, fun k k' hk hk' => ?_, fun k hk => ?_, fun k hk => ?_, fun k hk => ?_, h.bp, h.bmm, fun k hk => ?_⟩
  · rw [heap_setCell_same _ p (1 + j) _ _ _ ((hb.block p hp).trans h.head), budCells_set K j bf m b (by omega)]
  · by_cases e : k = j
    · subst e
      simp only [if_true]
      exact ⟨by rw [hoth b (by omega)]; exact hB.head, by rw [hoth g (by omega)]; exact hB.body, hB.unlike, hB.small, hB.ok⟩
    · simp only [e, if_false]
      have hk' : k < j := by omega
      have hBk := h.maps k hk'
      have hl := hlt k hk'
      have hpb : bf k ≠ p := by
        intro e2
        have h3 := hBk.head
        rw [e2, h.head] at h3
        exact absurd (Obj.cells.inj (Option.some.inj h3)).2.1 (by decide)
      exact ⟨by rw [hoth _ hpb, hb.block _ hl.1]; exact hBk.head, by rw [hoth _ (h.gp k hk'), hb.block _ hl.2]; exact hBk.body, hBk.unlike, hBk.small, hBk.ok⟩
  · exact ownsMap_block h.used (by rw [hoth m h.pm.symm, hb.block m hm])
  · by_cases e : k = j <;> by_cases e' : k' = j <;> simp only [e, e', if_true, if_false]
    · exact hB.unlike
    · have := hlt k' (by omega); omega
    · have := hlt k (by omega); omega
    · exact h.bg k k' (by omega) (by omega)
  · by_cases e : k = j <;> by_cases e' : k' = j <;> simp only [e, e', if_true, if_false]
    · intro _; trivial
    · intro h3; have := hlt k' (by omega); omega
    · intro h3; have := hlt k (by omega); omega
    · exact h.gg k k' (by omega) (by omega)
  · by_cases e : k = j <;> simp only [e, if_true, if_false]
    · omega
    · exact h.gp k (by omega)
  · by_cases e : k = j <;> simp only [e, if_true, if_false]
    · omega
    · exact h.gm k (by omega)
  · by_cases e : k = j <;> simp only [e, if_true, if_false]
    · omega
    · exact h.bm k (by omega)
  · by_cases e : k = j <;> simp only [e, if_true, if_false]
    · omega
    · exact h.bb k (by omega)

theorem Part.mem {w : World} {base p m K : Nat} {bf gf : Nat → Nat} (h : Part w base p m K (K + 1) bf gf) (hK : K ≤ 20) : Mem w p m K bf gf (fun _ _ => .no) 0 :=
  ⟨h.head, fun k hk => ⟨_, h.maps k (by omega), fun j _ => by rw [zeros_bit]; simp⟩, ⟨0, .map [], Nat.le_refl _, h.used, ⟨fun a => by simp [Maps.has], fun k i hk => by cases hk⟩⟩, hK, h.pm,
   fun k k' hk hk' => h.bg k k' (by omega) (by omega), fun k k' hk hk' => h.gg k k' (by omega) (by omega), fun k hk => h.gp k (by omega), fun k hk => h.gm k (by omega), fun k hk => h.bm k (by omega)⟩

/-- Where a new allocator lies. -/
def Newly (base p m K : Nat) (bf gf : Nat → Nat) : Prop := base ≤ p ∧ base ≤ m ∧ ∀ k, k ≤ K → base ≤ bf k ∧ base ≤ gf k
def NewPost (w : World) (K : Nat) (e : Ending) (w' : World) : Prop :=
  ∃ p m bf gf, e = .returned (.pointer (some ⟨p, 0, none⟩)) ∧ Mem w' p m K bf gf (begin_ K) 0 ∧ Newly w.heap.size p m K bf gf ∧ Below w.heap.size w w'

theorem budCells_zero (K : Nat) (bf : Nat → Nat) (m : Nat) : budCells K 0 bf m = #[.int .i64 (K : Int), .pointer none, .pointer none, .pointer none, .pointer none, .pointer none, .pointer none, .pointer none, .pointer none, .pointer none, .pointer none, .pointer none, .pointer none, .pointer none, .pointer none, .pointer none, .pointer none, .pointer none, .pointer none, .pointer none, .pointer none, .pointer none, .map (some m)] := by
  have e : ptrs 0 bf = Array.replicate 21 (.pointer none) := by
    apply Array.ext_getElem?
    intro k
    by_cases hk : k < 21
    · rw [ptrs_get _ _ _ hk, Array.getElem?_replicate, if_pos hk, ptrOf, if_neg (by omega)]
    · rw [Array.getElem?_eq_none (by rw [ptrs_size]; omega), Array.getElem?_eq_none (by simp; omega)]
  unfold budCells
  rw [e]
  exact Array.ext' (by simp [List.replicate_succ])

set_option maxHeartbeats 4000000 in
set_option maxRecDepth 100000 in
theorem newB_any (K : Nat) (w : World) (hT : Tab w) (h6 : 6 ≤ K) (hK : K ≤ 20) :
    Calls Tryz.prog 7 #[.int .i64 ((1024 * 2 ^ K : Nat) : Int)] w (NewPost w K) := by
  obtain ⟨q, hq⟩ : ∃ q, q = 2 ^ K := ⟨_, rfl⟩
  have hq1 : 64 ≤ q := by rw [hq]; exact Nat.pow_le_pow_right (n := 2) (by omega) h6
  have hq2 : q ≤ 1048576 := by rw [hq]; exact pow_le20 hK
  have hpop : pop (1024 * q) = 1 := by rw [hq]; exact pop_pow ⟨K, by omega⟩
  have hctz : Lib.ctz 64 q = K := by rw [hq]; exact ctz_pow ⟨K, by omega⟩
  have hmm := @run_makeMap Tryz.prog
  have HP := hid hpop
  have HC := hid hctz
  have HQ := hid hq
  have HT := hid hT
  have hpos := hT.pos
  rw [← hq]
  obtain ⟨S, hS⟩ : ∃ S, S = 1024 * q := ⟨_, rfl⟩
  have hS1 : (65536 : Int) ≤ (S : Int) := by omega
  have hS2 : (S : Int) ≤ 1073741824 := by omega
  have hdv : (S : Int) / 1024 = (q : Int) := by omega
  rw [← hS] at HP
  rw [← hS]
  have hd1 : decide ((S : Int) < 65536) = false := by rw [decide_eq_false]; omega
  have hd2 : decide ((1073741824 : Int) < (S : Int)) = false := by rw [decide_eq_false]; omega
  have HSS := hid hS
  clear hpop hctz hq hT hS
  go_enter Tryz.func7, Tryz.ntmps7
  go_wp2_with (first
    | (go_at_call 63; refine (onesU_any S _ (by omega)).mono ?_; rintro e w0 ⟨rfl, rfl⟩; rw [HP.out])
    | (go_at_call 64; refine (tzU_any q _ (by omega) (by omega) HT.out).mono ?_; rintro e w1 ⟨rfl, rfl⟩; rw [HC.out]))
  have hP0 : Hid (Part ((w1.alloc (.map #[] 0)).alloc (.cells #[.int .i64 (K : Int), .pointer none, .pointer none, .pointer none, .pointer none, .pointer none, .pointer none, .pointer none, .pointer none, .pointer none, .pointer none, .pointer none, .pointer none, .pointer none, .pointer none, .pointer none, .pointer none, .pointer none, .pointer none, .pointer none, .pointer none, .pointer none, .map (some w1.heap.size)] 106)) w1.heap.size (w1.heap.size + 1) w1.heap.size K 0 (fun _ => 0) (fun _ => 0)) :=
    ⟨by rw [budCells_zero, heap_alloc2_new], fun k hk => by omega, (World.ownsMap_made _ _ _ _).alloc _, by omega, fun k k' hk => by omega, fun k k' hk => by omega, fun k hk => by omega, fun k hk => by omega, fun k hk => by omega, by omega, by omega, fun k hk => by omega⟩
  have hX0 : Below w1.heap.size w1 ((w1.alloc (.map #[] 0)).alloc (.cells #[.int .i64 (K : Int), .pointer none, .pointer none, .pointer none, .pointer none, .pointer none, .pointer none, .pointer none, .pointer none, .pointer none, .pointer none, .pointer none, .pointer none, .pointer none, .pointer none, .pointer none, .pointer none, .pointer none, .pointer none, .pointer none, .pointer none, .pointer none, .map (some w1.heap.size)] 106)) := ((Below.refl _ _).alloc (Nat.le_refl _) _).alloc (by simp) _
  go_loopw [29] (fun t wr => ∃ j : Nat, j ≤ K + 1 ∧ t = .int .i64 (j : Int) ∧ (∃ bf gf, Hid (Part wr w1.heap.size (w1.heap.size + 1) w1.heap.size K j bf gf)) ∧ Below w1.heap.size w1 wr) (fun t _ => K + 1 - (intOf t).toNat)
  case atStart => exact ⟨0, by omega, rfl, ⟨_, _, hP0⟩, hX0⟩
  case round =>
    obtain ⟨j, hj, rfl, ⟨bf, gf, hP⟩, hX⟩ := hrel
    clear hP0 hX0
    obtain ⟨p, hp⟩ : ∃ p, p = w1.heap.size + 1 := ⟨_, rfl⟩
    rw [← hp] at hP ⊢
    have HPP := hid hp
    clear hp
    by_cases hlt : j ≤ K
    · have hpc : wr.cell? ⟨p, 1 + j, none⟩ = some (.pointer none) := by
        rw [cell_of_row wr p (1 + j) _ _ _ hP.out.head, budCells_ptr _ _ _ _ _ (by omega), ptrOf, if_neg (by omega)]
      have hplt := hP.out.lp
      have hfro := frozen_of_row _ p (1 + j) _ _ hP.out.head
      have hj21 : j < 21 := by omega
      obtain ⟨n, hn⟩ : ∃ n, n = 2 ^ (K - j) := ⟨_, rfl⟩
      have hn1 : n ≤ 1048576 := by rw [hn]; exact pow_le20 (by omega)
      obtain ⟨s, hs⟩ : ∃ s : Nat, s = 1024 * 2 ^ j := ⟨_, rfl⟩
      have hs1 : 0 < s := by have := Nat.two_pow_pos j; omega
      have hs2 : s ≤ 1073741824 := by have := pow_le20 (show j ≤ 20 by omega); omega
      have hdiv : (S : Int) / (s : Int) = (n : Int) := by
        have e1 : S = n * s := by rw [HSS.out, HQ.out, hn, hs, pow_split hlt, Nat.mul_comm 1024, Nat.mul_assoc, Nat.mul_comm (2 ^ j) 1024]
        rw [e1, ← Int.natCast_ediv, Nat.mul_div_cancel _ hs1]
      have hs0 : ((s : Int) == 0) = false := by simp; omega
      have hdiv' : (S : Int).tdiv (s : Int) = (n : Int) := by rw [Int.tdiv_eq_ediv_of_nonneg (by omega)]; exact hdiv
      have HN := hid hn
      have HS := hid hs
      have hjK : (j : Int) < (K : Int) + 1 := by omega
      clear hn hs hd1 hd2 hdv hmm
      go_wp2_with fail
      go_region_with (first
        | (go_at_call 66; refine (bytesOf_any j _ (by omega)).mono ?_; rintro e w4 ⟨rfl, rfl⟩; rw [← HS.out])
        | (go_at_call 65; refine (new_ok n _ hn1).mono ?_; rintro e w5 ⟨b, g, rfl, hB5, hb5, hlb, hlg⟩; have HB5 := hid hB5; clear hB5; have hc5 : w5.cell? ⟨p, 1 + j, none⟩ = some (.pointer none) := ((hb5.cell (p := ⟨p, 1 + j, none⟩) hplt).trans hpc); have hf5 : w5.frozen? ⟨p, 1 + j, none⟩ = false := (frozen_of_row _ p (1 + j) _ _ ((hb5.block p hplt).trans hP.out.head))))
      all_goals
        go_wp2_with fail
        have hb5' : Below wr.heap.size wr w5 := ⟨hb5.os, hb5.tape, hb5.output, hb5.size, hb5.block⟩
        have hnx := hP.out.next hlt hK hX.size (b := b) (g := g) (by rw [← HN.out]; exact HB5.out) hb5' hlb hlg
        exact ⟨⟨j + 1, by omega, by go_num, ⟨_, _, hnx⟩, Below.of_but (Below.of_below hX hX.size hb5') (Nat.le_trans hX.size hb5'.size) (But.setCell (But.refl p w5) (.inl rfl) _) hP.out.bp⟩, by simp [intOf]; omega⟩
    · obtain rfl : j = K + 1 := by omega
      have hM := hid (hP.out.mem hK)
      have hnew : Hid (Newly w1.heap.size p w1.heap.size K bf gf) := ⟨hP.out.bp, hP.out.bmm, fun k hk => hP.out.bb k (by omega)⟩
      have h0 := hM.out.cK
      have hcp := hM.out.cptr K (Nat.le_refl _)
      have hplt := hP.out.lp
      have hK21 : K < 21 := by omega
      have hgl := (hM.out.lb K (Nat.le_refl _)).2
      clear hP hd1 hd2 hdv hmm
      go_wp2_with fail
      go_region_with (first
        | (go_at_call 67; refine (mem_set (hM.out.drew.alloc _) true K 0 wr.heap.size (Nat.le_refl _) (Nat.two_pow_pos _) (heap_alloc_new wr.drew _) (by omega)).mono ?_; rintro e w6 ⟨⟨t, rfl⟩, hb6, hmem6⟩)
        | (go_at_call 67; refine (mem_set (hM.out.alloc _).drew true K 0 wr.heap.size (Nat.le_refl _) (Nat.two_pow_pos _) (heap_alloc_new wr _) (by omega)).mono ?_; rintro e w6 ⟨⟨t, rfl⟩, hb6, hmem6⟩))
      all_goals
        have hm6 := hid (hmem6 (begin_ K) (fun k' i' => by
          unfold begin_
          by_cases e : k' = K ∧ i' = 0
          · simp [e]
          · simp [e]) (fun k' i' => by
          unfold begin_
          by_cases e : k' = K ∧ i' = 0
          · simp [e]
          · simp [e]))
        have hX6 : Below w1.heap.size w1 w6 := Below.of_but (hX.drew.alloc hX.size _) (by have := hX.size; simp; omega) hb6 (hnew.out.2.2 K (Nat.le_refl _)).2
        clear hb6 hmem6
        go_wp2_with fail
        go_ret
        exact ⟨p, w1.heap.size, bf, gf, rfl, hm6.out, hnew.out, hX6⟩
end Go.Proofs.YtdmnemgooagehaaGreatDoor

namespace Go.Proofs.YtdmnemgooagehaaGreatDoor
open Go.RowKit Go.Maps

theorem free_mk {K : Nat} {B : St} (h : Inv K B) (hn : NoHeld B) {k i : Nat} (hk : k ≤ K) (hi : i < 2 ^ (K - k)) (hno : ∀ k' p, p / 2 ^ k = i → B k' (p / 2 ^ k') ≠ .used)
    (hex : k = K ∨ ∃ k' p, p / 2 ^ (k + 1) = i / 2 ∧ B k' (p / 2 ^ k') = .used) : B k i = .free := by
  obtain ⟨k1, h1, f1⟩ := covered h hn k i hk hi hno
  by_cases e : k1 = k
  · subst e; rwa [Nat.mul_div_cancel _ (Nat.two_pow_pos _)] at f1
  · have hk1 := (h.inn _ _ (by rw [f1]; simp : B k1 (i * 2 ^ k / 2 ^ k1) ≠ .no)).1
    rcases hex with rfl | ⟨k', p, hp, hb⟩
    · omega
    · obtain ⟨d, rfl⟩ : ∃ d, k1 = k + 1 + d := ⟨k1 - (k + 1), by omega⟩
      have e1 : p / 2 ^ (k + 1 + d) = i * 2 ^ k / 2 ^ (k + 1 + d) := by
        rw [Nat.pow_add, ← Nat.div_div_eq_div_mul, ← Nat.div_div_eq_div_mul, hp, half_div, Nat.mul_div_cancel _ (Nat.two_pow_pos _)]
      have e2 := h.at_ (by rw [f1]; simp) e1 (by rw [hb]; simp : B k' (p / 2 ^ k') ≠ .no)
      subst e2
      rw [e1, f1] at hb
      cases hb

/-- Just these are used. -/
def Us (B : St) (U : List (Nat × Nat)) : Prop := ∀ k i, B k i = .used ↔ (k, i) ∈ U
theorem Us.plus {B B' : St} {U : List (Nat × Nat)} {o n : Nat} (h : Us B U) (hp : Plus B B' o n) : Us B' ((o, n) :: U) := fun k i => by
  rw [hp k i, h k i, List.mem_cons, Prod.mk.injEq, or_comm]
theorem begin_us (K : Nat) : Us (begin_ K) [] := fun k i => by unfold begin_; split <;> simp
theorem begin_noheld (K : Nat) : NoHeld (begin_ K) := fun k i => by unfold begin_; split <;> simp
theorem begin_least {K o k i : Nat} (h : Least (begin_ K) o k i) : k = K ∧ i = 0 := by
  have := h.2.1
  unfold begin_ at this
  split at this
  · assumption
  · cases this
theorem begin_some {K o : Nat} (ho : o ≤ K) (h : ∀ k j, o ≤ k → begin_ K k j ≠ .free) : False := h K 0 ho (by unfold begin_; simp)

theorem addr_of {o n p : Nat} {a : Int} (h : addr o n = a) (ha : a = ((p * 1024 : Nat) : Int)) : n * 2 ^ o = p := by unfold addr at h; omega

theorem al1 {B : St} (hi : Inv 6 B) (hn : NoHeld B) (hu : Us B [(0, 0)]) : B 0 1 = .free := by
  refine free_mk hi hn (by omega) (by omega) (fun k' p hp hb => ?_) (.inr ⟨0, 0, by simp, (hu 0 (0 / 2 ^ 0)).2 (by simp)⟩)
  have := (hu _ _).1 hb
  simp at this hp
  obtain ⟨rfl, h⟩ := this
  simp at h; omega
theorem al2 {B : St} (hi : Inv 6 B) (hn : NoHeld B) (hu : Us B [(0, 1), (0, 0)]) : B 1 1 = .free := by
  refine free_mk hi hn (by omega) (by omega) (fun k' p hp hb => ?_) (.inr ⟨0, 0, by simp, (hu 0 (0 / 2 ^ 0)).2 (by simp)⟩)
  have := (hu _ _).1 hb
  simp at this hp
  rcases this with ⟨rfl, h⟩ | ⟨rfl, h⟩ <;> simp at h <;> omega
theorem al4 {B : St} (hi : Inv 6 B) (hn : NoHeld B) (hu : Us B [(1, 1), (0, 0)]) : B 5 1 = .free := by
  refine free_mk hi hn (by omega) (by omega) (fun k' p hp hb => ?_) (.inr ⟨0, 0, by simp, (hu 0 (0 / 2 ^ 0)).2 (by simp)⟩)
  have := (hu _ _).1 hb
  simp at this hp
  rcases this with ⟨rfl, h⟩ | ⟨rfl, h⟩ <;> simp at h <;> omega
theorem al_great {B : St} {r : Int} (hi : Inv 6 B) (hn : NoHeld B) (hu : Us B [(1, 1), (0, 0)]) (h : GreatB B r) : r = 5 := by
  have h5 := al4 hi hn hu
  rcases h with ⟨_, h⟩ | ⟨k, i, rfl, hb, h⟩
  · exact absurd h5 (h 5 1)
  · have h6 := h 5 1 h5
    obtain ⟨hk, hi6⟩ := hi.inn k i (by rw [hb]; simp)
    by_cases e : k = 6
    · subst e
      simp at hi6
      subst hi6
      have h0 : B 0 0 = .used := (hu 0 0).2 (by simp)
      have := hi.one 0 6 0 (by simp [hb]) (by simp [h0])
      omega
    · omega
theorem al_list {B : St} {L : List (Nat × Nat)} (hu : Us B [(1, 1), (0, 0)]) (h : Lst B .used L) : L.length = 2 := by
  have e : L = [(0, 0), (2, 1)] := by
    refine rise_ext h.rise (by simp) fun ⟨p, k⟩ => ?_
    rw [h.mem]
    constructor
    · rintro ⟨i, rfl, hb⟩
      have := (hu k i).1 hb
      simp at this
      rcases this with ⟨rfl, rfl⟩ | ⟨rfl, rfl⟩ <;> simp
    · intro hm
      simp at hm
      rcases hm with ⟨rfl, rfl⟩ | ⟨rfl, rfl⟩
      · exact ⟨0, by simp, (hu 0 0).2 (by simp)⟩
      · exact ⟨1, by simp, (hu 1 1).2 (by simp)⟩
  rw [e]; rfl
theorem al_pages {B : St} (hi : Inv 6 B) (hn : NoHeld B) (hu : Us B [(1, 1), (0, 1), (0, 0)]) : pages 6 (isK B .free) (6 + 1) = 60 := by
  have ha := pages_all hi hn
  have e0 : pages 6 (fun _ _ => false) 7 = 0 := by decide +kernel
  have e1 := pages_more (K := 6) (f := fun _ _ => false) (g := fun k i => decide (k = 0 ∧ i = 0)) (o := 0) (n := 0) rfl (fun k i => by simp) (by omega) (N := 7) (by omega)
  have e2 := pages_more (K := 6) (f := fun k i => decide (k = 0 ∧ i = 0)) (g := fun k i => decide (k = 0 ∧ i = 0) || decide (k = 0 ∧ i = 1)) (o := 0) (n := 1) (by simp) (fun k i => rfl) (by omega) (N := 7) (by omega)
  have e3 := pages_more (K := 6) (f := fun k i => decide (k = 0 ∧ i = 0) || decide (k = 0 ∧ i = 1)) (g := fun k i => (decide (k = 0 ∧ i = 0) || decide (k = 0 ∧ i = 1)) || decide (k = 1 ∧ i = 1)) (o := 1) (n := 1) (by simp) (fun k i => rfl) (by omega) (N := 7) (by omega)
  have e4 : isK B .used = fun k i => (decide (k = 0 ∧ i = 0) || decide (k = 0 ∧ i = 1)) || decide (k = 1 ∧ i = 1) := by
    funext k i
    unfold isK
    rw [Bool.eq_iff_iff]
    simp [hu k i]
    omega
  rw [e4, e3, e2, e1, e0] at ha
  omega
theorem least_at {B : St} {o i0 k i : Nat} (h : Least B o k i) (hf : B o i0 = .free) (hb : ∀ j, j < i0 → B o j ≠ .free) : k = o ∧ i = i0 := by
  have e : k = o := by
    apply Decidable.byContradiction
    intro hne
    exact h.2.2.2 o i0 (Nat.le_refl _) (by have := h.1; omega) hf
  subst e
  refine ⟨rfl, ?_⟩
  apply Decidable.byContradiction
  intro hne
  by_cases hl : i < i0
  · exact hb i hl h.2.1
  · exact h.2.2.1 i0 (by omega) hf

end Go.Proofs.YtdmnemgooagehaaGreatDoor

namespace Go.Proofs.YtdmnemgooagehaaGreatDoor
open Go.RowKit Go.Maps

/-- The slice reads as these blocks, in memory from base on. -/
def Rd (w : World) (base : Nat) (a : Option Addr) (L : List (Nat × Nat)) : Prop :=
  L.length = 0 ∨ ∃ g, a = some ⟨g, 0, none⟩ ∧ base ≤ g ∧ g < w.heap.size ∧ ∀ (j p k : Nat), L[j]? = some (p, k) → w.cell? ⟨g, j * 2, none⟩ = some (.int .i64 ((p * 1024 : Nat) : Int)) ∧ w.cell? ⟨g, j * 2 + 1, none⟩ = some (.int .i64 (k : Int))
theorem rd_of {w : World} {base : Nat} {v : Value} {L : List (Nat × Nat)} (h : w.ownsRow base 132 2 v L.length (bcells L)) : ∃ a cap, v = .slice a L.length cap ∧ Rd w base a L := by
  rcases h.2 with ⟨rfl, h0⟩ | ⟨g, cap, cur, rfl, hb, hr, _, _, _, ht⟩
  · exact ⟨none, 0, by rw [h0], .inl h0⟩
  · refine ⟨_, _, rfl, .inr ⟨g, rfl, hb, (Array.getElem?_eq_some_iff.1 hr).1, fun j p k hj => ?_⟩⟩
    obtain ⟨hlt, he⟩ := List.getElem?_eq_some_iff.1 hj
    have key : ∀ t, t < L.length * 2 → w.cell? ⟨g, t, none⟩ = some (encB L[t / 2]!)[t % 2]! := fun t ht2 => by
      rw [cell_of_row w g t _ _ _ hr, ← bcells_get L t ht2, ← ht, List.getElem?_take_of_lt ht2, Array.getElem?_toList]
    have e0 := key (j * 2) (by omega)
    have e1 := key (j * 2 + 1) (by omega)
    rw [show j * 2 / 2 = j from by omega, show j * 2 % 2 = 0 from by omega, getElem!_pos L j hlt, he] at e0
    rw [show (j * 2 + 1) / 2 = j from by omega, show (j * 2 + 1) % 2 = 1 from by omega, getElem!_pos L j hlt, he] at e1
    exact ⟨e0, e1⟩
theorem Rd.block {w w' : World} {base : Nat} {a : Option Addr} {L : List (Nat × Nat)} (h : Rd w base a L) (hs : w.heap.size ≤ w'.heap.size) (hb : ∀ g, base ≤ g → g < w.heap.size → w'.heap[g]? = w.heap[g]?) : Rd w' base a L := by
  rcases h with h | ⟨g, rfl, h1, h2, h3⟩
  · exact .inl h
  · refine .inr ⟨g, rfl, h1, by omega, fun j p k hj => ?_⟩
    have e : ∀ o, w'.cell? ⟨g, o, none⟩ = w.cell? ⟨g, o, none⟩ := fun o => World.cell?_of_block (hb g h1 h2)
    rw [e, e]
    exact h3 j p k hj
theorem Rd.turn {S : Nat → Prop} {w w' : World} {base : Nat} {a : Option Addr} {L : List (Nat × Nat)} (h : Rd w base a L) (ht : Turn S w w') (hS : ∀ x, S x → x < base) : Rd w' base a L :=
  h.block ht.size fun g h1 h2 => ht.block g h2 fun hs => by have := hS g hs; omega
theorem Rd.below {w w' : World} {base : Nat} {a : Option Addr} {L : List (Nat × Nat)} (h : Rd w base a L) (hb : Below w.heap.size w w') : Rd w' base a L :=
  h.block hb.size fun g _ h2 => hb.block g h2
theorem Rd.at {w : World} {base : Nat} {a : Option Addr} {L : List (Nat × Nat)} (h : Rd w base a L) {j p k : Nat} (hj : L[j]? = some (p, k)) : ∃ g, a = some ⟨g, 0, none⟩ ∧ w.cell? ⟨g, j * 2, none⟩ = some (.int .i64 ((p * 1024 : Nat) : Int)) ∧ w.cell? ⟨g, j * 2 + 1, none⟩ = some (.int .i64 (k : Int)) := by
  rcases h with h | ⟨g, rfl, _, _, h3⟩
  · have := (List.getElem?_eq_some_iff.1 hj).1; omega
  · exact ⟨g, rfl, h3 j p k hj⟩

theorem shl_eq (k q : Nat) (hq : q = 2 ^ k) : (2 : Int) ^ k = (q : Int) := by rw [hq]; simp

end Go.Proofs.YtdmnemgooagehaaGreatDoor

namespace Go.Proofs.YtdmnemgooagehaaGreatDoor
open Go.ChangeShapes Go.WideShapes Go.ChangeAt Go.RowKit

/-- The slice has so many acts, in memory that was there. -/
def Acts (w : World) (a : Option Addr) (len : Nat) : Prop :=
  len = 0 ∨ ∃ s o, a = some ⟨s, o, none⟩ ∧ s < w.heap.size ∧ ∀ i : Nat, i < len → ∃ kd n : Int, w.cell? ⟨s, o + i * 2, none⟩ = some (.int .i64 kd) ∧ w.cell? ⟨s, o + i * 2 + 1, none⟩ = some (.int .i64 n) ∧ (Lit.int .i64 kd).wf = true ∧ (Lit.int .i64 n).wf = true

theorem Acts.at {w w' : World} {Bd : Nat} {a : Option Addr} {len : Nat} (h : Acts w a len) (hb : Below Bd w w') (hB : w.heap.size ≤ Bd) {i : Nat} (hi : i < len) :
    ∃ s o, ∃ kd n : Int, a = some ⟨s, o, none⟩ ∧ s < w.heap.size ∧ w'.cell? ⟨s, o + i * 2, none⟩ = some (.int .i64 kd) ∧ w'.cell? ⟨s, o + i * 2 + 1, none⟩ = some (.int .i64 n) ∧ (Lit.int .i64 kd).wf = true ∧ (Lit.int .i64 n).wf = true := by
  rcases h with h | ⟨s, o, rfl, hs, hc⟩
  · omega
  · obtain ⟨kd, n, h0, h1, h2, h3⟩ := hc i hi
    exact ⟨s, o, kd, n, rfl, hs, (hb.cell (p := ⟨s, o + i * 2, none⟩) (show s < Bd by omega)).trans h0, (hb.cell (p := ⟨s, o + i * 2 + 1, none⟩) (show s < Bd by omega)).trans h1, h2, h3⟩

theorem cells3 : Tryz.prog.cellsOf 3 = 1 := by kernel_rfl
theorem own : ownKnob Tryz.prog.godebug = none := by kernel_rfl
theorem laidOut : laidOutB Tryz.prog = true := by kernel_rfl
theorem gTab : Tryz.prog.globalNamed "math/bits.deBruijn64tab" = some 2 := by kernel_rfl
theorem gTabType : (Tryz.prog.globals[2]?).map (·.type) = some 196 := by kernel_rfl
theorem cells158 : Tryz.prog.cellsOf 196 = 64 := by kernel_rfl
theorem cells5 : Tryz.prog.cellsOf 5 = 1 := by kernel_rfl

def tabInts : List Int := Lib.deBruijn64tab.map (fun x : Nat => (x : Int))
def tabInts32 : List Int := Lib.deBruijn32tab.map (fun x : Nat => (x : Int))
theorem table {W : World} (h : laidMetH Tryz.prog [("math/bits.deBruijn32tab", Rows.laid_math_bits_deBruijn32tab), ("math/bits.deBruijn64tab", Rows.laid_math_bits_deBruijn64tab), ("quartermaster/pool.costs", Rows.laid_quartermaster_pool_costs)] W) : Lib.TabIs Tryz.prog W "math/bits.deBruijn64tab" .u8 tabInts :=
  Lib.tabIs_of_head (rest := [("quartermaster/pool.costs", Rows.laid_quartermaster_pool_costs)]) gTab gTabType Tryz.underlying196 Tryz.underlying5 cells5 cells158 (laidMet.tail h)
theorem tab_val : ∀ j : Fin 64, tabInts.getD j.val 0 = ((Lib.deBruijn64tab.getD j.val 0 : Nat) : Int) := by decide +kernel
theorem tab_of {W : World} (h : laidMetH Tryz.prog [("math/bits.deBruijn32tab", Rows.laid_math_bits_deBruijn32tab), ("math/bits.deBruijn64tab", Rows.laid_math_bits_deBruijn64tab), ("quartermaster/pool.costs", Rows.laid_quartermaster_pool_costs)] W) : Tab W := by
  intro j hj
  have := (table h).cell gTab j (by show j < _; exact hj)
  rw [this, tab_val ⟨j, hj⟩]

/-- What memory of a class costs. -/
def cost : Nat → Nat
  | 1 => 64 | 2 => 128 | 3 => 256 | 4 => 32 | 5 => 32 | 6 => 48 | 7 => 256 | _ => 0
/-- The table of costs: block 0. -/
def Cst (w : World) : Prop := ∀ j, j < 8 → w.cell? ⟨0, j, none⟩ = some (.int .i64 ((cost j : Nat) : Int))
theorem gCst : Tryz.prog.globalNamed "quartermaster/pool.costs" = some 0 := by kernel_rfl
theorem gCstType : (Tryz.prog.globals[0]?).map (·.type) = some 144 := by kernel_rfl
theorem cells73 : Tryz.prog.cellsOf 144 = 8 := by kernel_rfl
def cstInts : List Int := [0, 64, 128, 256, 32, 32, 48, 256]
theorem costTable {W : World} (h : laidMetH Tryz.prog [("math/bits.deBruijn32tab", Rows.laid_math_bits_deBruijn32tab), ("math/bits.deBruijn64tab", Rows.laid_math_bits_deBruijn64tab), ("quartermaster/pool.costs", Rows.laid_quartermaster_pool_costs)] W) : Lib.TabIs Tryz.prog W "quartermaster/pool.costs" .i64 cstInts :=
  Lib.tabIs_of_head (rest := []) gCst gCstType Tryz.underlying144 Tryz.underlying3 cells3 cells73 (laidMet.tail (laidMet.tail h))
theorem cst_val : ∀ j : Fin 8, cstInts.getD j.val 0 = ((cost j.val : Nat) : Int) := by decide +kernel
theorem cst_of {W : World} (h : laidMetH Tryz.prog [("math/bits.deBruijn32tab", Rows.laid_math_bits_deBruijn32tab), ("math/bits.deBruijn64tab", Rows.laid_math_bits_deBruijn64tab), ("quartermaster/pool.costs", Rows.laid_quartermaster_pool_costs)] W) : Cst W := by
  intro j hj
  have := (costTable h).cell gCst j (by show j < _; exact hj)
  rw [this, cst_val ⟨j, hj⟩]

def lays (xs : List Int) : Obj → Obj
  | .cells _ t frozen => .cells (xs.map (Value.int .u8)).toArray t frozen
  | o => o
def laysC (xs : List Int) : Obj → Obj
  | .cells _ t frozen => .cells (xs.map (Value.int .i64)).toArray t frozen
  | o => o
/-- A world for the witness: the settled one, the tables (blocks 0, 1 and 2) holding what their initialisers lay. -/
def LaidWorld (os : Os) (W : World) : Prop :=
  W = { World.holding Tryz.prog os ⟨#[], #[], []⟩ with heap := (((World.holding Tryz.prog os ⟨#[], #[], []⟩).heap.modify 1 (lays tabInts32)).modify 2 (lays tabInts)).modify 0 (laysC cstInts) }

/-- The allocator, as it may be. -/
def Good (w : World) (p m K : Nat) (bf gf : Nat → Nat) (B : St) (c : Nat) : Prop := Inv K B ∧ NoHeld B ∧ Mem w p m K bf gf B c

/-- What Take of whatever number comes to. -/
def Took (w : World) (p m K : Nat) (bf gf : Nat → Nat) (B : St) (c : Nat) (N : Int) (e : Ending) (w' : World) : Prop :=
  ∃ (at_ er : Int) (B' : St), e = .returned (.tuple #[.int .i64 at_, .int .i64 er]) ∧ Turn (Own m K gf) w w' ∧ Good w' p m K bf gf B' (c + 1) ∧
    ((at_ = 0 ∧ B' = B ∧ ((er = 1 ∧ (N < 0 ∨ (K : Int) < N)) ∨ er = 4 ∧ ∃ o : Nat, N = (o : Int) ∧ o ≤ K ∧ ∀ k j, o ≤ k → B k j ≠ .free)) ∨
     er = 0 ∧ ∃ o k i n : Nat, N = (o : Int) ∧ o ≤ K ∧ Least B o k i ∧ at_ = addr k i ∧ addr o n = addr k i ∧ B o n ≠ .used ∧ Plus B B' o n)
theorem took_any (w : World) (p m K : Nat) (bf gf : Nat → Nat) (B : St) (c : Nat) (N : Int) (hG : Good w p m K bf gf B c) (hT : Tab w) (hc : c ≤ 1000000) :
    Calls Tryz.prog 20 #[.pointer (some ⟨p, 0, none⟩), .int .i64 N] w (Took w p m K bf gf B c N) := by
  by_cases h : 0 ≤ N ∧ N ≤ (K : Int)
  · obtain ⟨o, rfl⟩ := Int.eq_ofNat_of_zero_le h.1
    refine (take_any w p m K bf gf B c o hG.2.2 hG.1 hG.2.1 hT (by omega) hc).mono ?_
    rintro e w' ⟨a, er, rfl, ht, ⟨rfl, rfl, hno, hm⟩ | ⟨k, i, n, B', rfl, hl, rfl, hn, hu, hp, hi', hn', hm'⟩⟩
    · exact ⟨_, _, B, rfl, ht, ⟨hG.1, hG.2.1, hm.more (by omega)⟩, .inl ⟨rfl, rfl, .inr ⟨rfl, o, rfl, by omega, hno⟩⟩⟩
    · exact ⟨_, _, B', rfl, ht, ⟨hi', hn', hm'⟩, .inr ⟨rfl, o, k, i, n, rfl, by omega, hl, rfl, hn, hu, hp⟩⟩
  · refine (take_bad w p K N hG.2.2.cK (by omega)).mono ?_
    rintro e w' ⟨rfl, rfl⟩
    exact ⟨_, _, B, rfl, Turn.refl _ _, ⟨hG.1, hG.2.1, hG.2.2.more (by omega)⟩, .inl ⟨rfl, rfl, .inl ⟨rfl, by omega⟩⟩⟩

/-- What Give of a used block comes to. -/
def Gave (w : World) (p m K : Nat) (bf gf : Nat → Nat) (B : St) (c k i : Nat) (e : Ending) (w' : World) : Prop :=
  ∃ B' : St, e = .returned (.int .i64 0) ∧ Turn (Own m K gf) w w' ∧ Good w' p m K bf gf B' c ∧ Less B B' k i
theorem gave_any (w : World) (p m K : Nat) (bf gf : Nat → Nat) (B : St) (c k i : Nat) (a : Int) (hG : Good w p m K bf gf B c) (hb : B k i = .used) (ha : a = addr k i) :
    Calls Tryz.prog 131 #[.pointer (some ⟨p, 0, none⟩), .int .i64 a] w (Gave w p m K bf gf B c k i) := by
  subst ha
  refine (give_some w p m K bf gf B c k i hG.2.2 hG.1 hG.2.1 hb).mono ?_
  rintro e w' ⟨er, rfl, ht, ⟨rfl, hno, _⟩ | ⟨k', i', B', rfl, hb', ha', hl, hi', hn', hm'⟩⟩
  · exact (hno k i hb rfl).elim
  · obtain ⟨rfl, rfl⟩ := addr_inj hG.1 (by rw [hb]; simp) (by rw [hb']; simp) ha'
    exact ⟨B', rfl, ht, ⟨hi', hn', hm'⟩, hl⟩

/-- A list of blocks that came from Used or Free. -/
def Got (B : St) (x : Kind) (w : World) (e : Ending) (w' : World) : Prop :=
  ∃ a cap L, e = .returned (.slice a (L.length : Nat) cap) ∧ Lst B x L ∧ L.length ≤ 100000000 ∧ Rd w' w.heap.size a L ∧ Below w.heap.size w w'
theorem got_free (w : World) (p m K : Nat) (bf gf : Nat → Nat) (B : St) (c : Nat) (hG : Good w p m K bf gf B c) (hT : Tab w) : Calls Tryz.prog 25 #[.pointer (some ⟨p, 0, none⟩)] w (Got B .free w) := by
  refine (free_any w p m K bf gf B c hG.2.2 hG.1 hT).mono ?_
  rintro e w' ⟨v, L, rfl, hL, hl, ho, hb⟩
  obtain ⟨a, cap, rfl, hr⟩ := rd_of ho
  exact ⟨a, cap, L, rfl, hL, hl, hr, hb⟩
theorem Good.below {w w' : World} {p m K : Nat} {bf gf : Nat → Nat} {B : St} {c : Nat} (h : Good w p m K bf gf B c) (hb : Below w.heap.size w w') : Good w' p m K bf gf B c := ⟨h.1, h.2.1, h.2.2.below hb⟩
theorem Good.more {w : World} {p m K : Nat} {bf gf : Nat → Nat} {B : St} {c c' : Nat} (h : Good w p m K bf gf B c) (hc : c ≤ c') : Good w p m K bf gf B c' := ⟨h.1, h.2.1, h.2.2.more hc⟩
theorem Good.lown {w : World} {p m K : Nat} {bf gf : Nat → Nat} {B : St} {c : Nat} (h : Good w p m K bf gf B c) : ∀ x, Own m K gf x → x < w.heap.size := fun _ hx => h.2.2.lown hx

/-- An element of a list of blocks is a block of that kind. -/
theorem Lst.blk {B : St} {x : Kind} {L : List (Nat × Nat)} (h : Lst B x L) {j p k : Nat} (hj : L[j]? = some (p, k)) : ∃ i, B k i = x ∧ ((p * 1024 : Nat) : Int) = addr k i := by
  obtain ⟨i, rfl, hb⟩ := (h.mem p k).1 (List.mem_of_getElem? hj)
  exact ⟨i, hb, rfl⟩

theorem newG (w : World) (hT : Tab w) : Calls Tryz.prog 7 #[.int .i64 131072] w fun e w' => ∃ p m bf gf, e = .returned (.pointer (some ⟨p, 0, none⟩)) ∧ Good w' p m 7 bf gf (begin_ 7) 0 ∧ (∀ x, Own m 7 gf x → w.heap.size ≤ x) ∧ Below w.heap.size w w' := by
  refine (newB_any 7 w hT (by omega) (by omega)).mono ?_
  rintro e w' ⟨p, m, bf, gf, rfl, hm, hn, hb⟩
  refine ⟨p, m, bf, gf, rfl, ⟨begin_inv 7, begin_noheld 7, hm⟩, ?_, hb⟩
  rintro x (rfl | ⟨k, hk, rfl⟩)
  · exact hn.2.1
  · exact (hn.2.2 k hk).2
end Go.Proofs.YtdmnemgooagehaaGreatDoor
