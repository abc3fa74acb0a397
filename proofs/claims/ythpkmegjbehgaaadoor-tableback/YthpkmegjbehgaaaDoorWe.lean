/- The library's maps.Keys, slices.Sorted and slices.Sort lie in this program as on the shelf. · A cache: Slabs. · The numbers of a slab's used places, one by one: the iterator. · A region that draws its order, inside a round of a loop over a function; marks of such loops among the deferred calls. · A cache: Used. · A cache over an allocator, between two calls. · A cache that is alone over its allocator: the used blocks are its slabs; the function alive. -/
import Derived.Shelf.SlIterI.Nil
import Derived.Shelf.SortM.Plain
import Derived.Shelf.SortM.SortNone
import Derived.Ground.GgzProg
import Derived.Ground.SlgmProg
import Derived.Test.YthpkmegjbehgaaaDoorChecked
import Derived.Test.YthpkmegjbehgaaaDoorWd
import Derived.RangeFuncNested
import Derived.RangeFuncBound
import Derived.RangeFuncCalls
import Derived.RangeFuncLeaves
import Derived.RangeFuncBox
import Derived.Shelf.Abstract
import Derived.Shelf.RegionOpen
import Derived.WalkKit
import Derived.OwnWalkIn
import Derived.TacticsInMore
import Derived.LoopNIn
import Derived.LoopIn
import Derived.Maps.AppendAt
namespace Go.Proofs
open Go.Shelf
def Tryd.keysP_ren : Go.Shelf.Ren := ⟨fun | 7 => 102 | 10 => 117 | n => n, fun | 23 => 98 | 26 => 3 | 3 => 105 | 28 => 123 | 0 => 0 | 27 => 122 | 33 => 88 | 4 => 4 | n => n, fun | n => n⟩
def Tryd.sortedP_ren : Go.Shelf.Ren := ⟨fun | 6 => 101 | 8 => 115 | 9 => 116 | 11 => 129 | 13 => 113 | 12 => 130 | 23 => 127 | 24 => 128 | 14 => 136 | 15 => 137 | 16 => 138 | 17 => 139 | 18 => 140 | 19 => 141 | 20 => 142 | 21 => 143 | 22 => 144 | 25 => 146 | 26 => 132 | 27 => 133 | 28 => 147 | 29 => 148 | 30 => 114 | 31 => 149 | n => n, fun | 26 => 3 | 28 => 123 | 24 => 38 | 0 => 0 | 3 => 3 | 37 => 93 | 48 => 120 | 50 => 31 | 4 => 4 | 40 => 164 | 39 => 163 | 45 => 140 | 5 => 5 | 9 => 9 | 51 => 171 | 55 => 175 | 57 => 182 | 58 => 131 | 33 => 88 | n => n, fun | n => n⟩
def Tryd.sortP_ren : Go.Shelf.Ren := ⟨fun | 5 => 116 | 8 => 113 | 7 => 130 | 19 => 127 | 20 => 128 | 10 => 136 | 11 => 137 | 12 => 138 | 13 => 139 | 14 => 140 | 15 => 141 | 16 => 142 | 17 => 143 | 18 => 144 | 30 => 146 | 31 => 132 | 32 => 133 | 33 => 147 | 34 => 148 | 35 => 114 | 40 => 149 | n => n, fun | 23 => 38 | 25 => 3 | 3 => 3 | 32 => 93 | 22 => 38 | 0 => 0 | 44 => 120 | 46 => 31 | 4 => 4 | 36 => 164 | 35 => 163 | 41 => 140 | 5 => 5 | 9 => 9 | 53 => 171 | 57 => 175 | 63 => 182 | 64 => 131 | n => n, fun | n => n⟩
end Go.Proofs

namespace Go.Proofs.YthpkmegjbehgaaaDoor
open Go.RowKit Go.Maps Go.Sort Go.Shelf

/-- Numbers as a slice's cells. -/
def nums (l : List Nat) : List Value := l.map fun x : Nat => Value.int .i64 (x : Int)
/-- A slice of numbers, in a block beyond base. -/
def Ints (w : World) (base : Nat) (a : Option Addr) (l : List Nat) : Prop := l = [] ∨ ∃ g cur, a = some ⟨g, 0, none⟩ ∧ base ≤ g ∧ w.heap[g]? = some (.cells cur 3) ∧ ∀ j (h : j < l.length), cur[j]? = some (.int .i64 (l[j] : Int))
theorem Ints.cell {w : World} {base : Nat} {a : Option Addr} {l : List Nat} (h : Ints w base a l) {j x : Nat} (hj : l[j]? = some x) : ∃ g, a = some ⟨g, 0, none⟩ ∧ base ≤ g ∧ g < w.heap.size ∧ w.cell? ⟨g, j, none⟩ = some (.int .i64 (x : Int)) := by
  obtain ⟨hl, rfl⟩ := List.getElem?_eq_some_iff.1 hj
  rcases h with rfl | ⟨g, cur, rfl, hb, hg, hc⟩
  · cases hl
  · exact ⟨g, rfl, hb, lt_of hg, by rw [cell_of_row w g j _ _ _ hg, hc j hl]⟩
theorem Ints.other {w w' : World} {base : Nat} {a : Option Addr} {l : List Nat} (h : Ints w base a l) (ho : ∀ g, a = some ⟨g, 0, none⟩ → base ≤ g → g < w.heap.size → w'.heap[g]? = w.heap[g]?) : Ints w' base a l := by
  rcases h with rfl | ⟨g, cur, rfl, hb, hg, hc⟩
  · exact .inl rfl
  · exact .inr ⟨g, cur, rfl, hb, (ho g rfl hb (lt_of hg)).trans hg, hc⟩
theorem Ints.below {w w' : World} {base : Nat} {a : Option Addr} {l : List Nat} (h : Ints w base a l) (hb : Below w.heap.size w w') : Ints w' base a l := h.other fun g _ _ hg => hb.block g hg
theorem ints_of {w : World} {base : Nat} {v : Value} {l : List Nat} (h : w.ownsRow base 3 1 v l.length (nums l)) : ∃ a cap, v = .slice a l.length cap ∧ Ints w base a l := by
  rcases h.2 with ⟨rfl, h0⟩ | ⟨g, cap, cur, rfl, hbase, hb, h1, h2, h3, h4⟩
  · obtain rfl := List.eq_nil_of_length_eq_zero h0
    exact ⟨none, 0, rfl, .inl rfl⟩
  · refine ⟨some ⟨g, 0, none⟩, cap, rfl, .inr ⟨g, cur, rfl, hbase, hb, fun j hj => ?_⟩⟩
    have e1 : cur[j]? = (nums l)[j]? := by rw [← h4, List.getElem?_take_of_lt (by omega), Array.getElem?_toList]
    rw [e1]; simp [nums, hj]

theorem Says.keys {w : World} {mb nm : Nat} {D : DataW Unit} {S : Nat → Prop} {sb : Nat → Nat} (h : Says D S sb) (hm : Pmap w mb nm D) {l : List Nat} (hup : l.Pairwise (· < ·)) (hl : ∀ x, x ∈ l ↔ ∃ q, S q ∧ x = q * 1024) : (l.map fun x : Nat => (x : Int)).Perm (intKeys D) := by
  refine CollectedI.perm (left := fun _ => false) ⟨?_, fun x => ?_⟩ hm law3 Tryd.underlying3 (fun _ => rfl)
  · rw [List.nodup_iff_pairwise_ne, List.pairwise_map]
    exact hup.imp (fun h => by omega)
  · rw [h.key, List.mem_map]
    constructor
    · rintro ⟨y, hy, rfl⟩
      obtain ⟨q, hq, rfl⟩ := (hl y).1 hy
      exact ⟨⟨q, hq, rfl⟩, rfl⟩
    · rintro ⟨⟨q, hq, rfl⟩, _⟩
      exact ⟨q * 1024, (hl _).2 ⟨q, hq, rfl⟩, rfl⟩

def SlabsPost (w : World) (l : List Nat) (e : Ending) (w' : World) : Prop := ∃ v, e = .returned v ∧ w'.ownsRow w.heap.size 3 1 v l.length (nums l) ∧ Below w.heap.size w w'
end Go.Proofs.YthpkmegjbehgaaaDoor

namespace Go.Proofs.YthpkmegjbehgaaaDoor
open Go.RowKit Go.Maps Go.Shelf
attribute [local go_sem] Oper.semAt_some

theorem ones_skip {f : Nat → Bool} {a b : Nat} (hab : a ≤ b) (h : ∀ j, a ≤ j → j < b → f j = false) : ones f b = ones f a := by
  refine up_ext (ones_up f b) (ones_up f a) (fun x => ?_)
  rw [ones_mem, ones_mem]
  constructor
  · rintro ⟨h1, h2⟩
    refine ⟨?_, h2⟩
    by_cases e : x < a
    · exact e
    · rw [h x (by omega) h1] at h2; cases h2
  · rintro ⟨h1, h2⟩
    exact ⟨by omega, h2⟩
theorem ones_next {f : Nat → Bool} {k : Nat} (h : f k = true) : ones f (k + 1) = ones f k ++ [k] := by
  unfold ones
  rw [List.range_succ, List.filter_append]
  simp [h]

/-- What a round keeps: all below n₀, and the box. -/
def Kp (n₀ Bn : Nat) (A B : World) : Prop := Below n₀ A B ∧ B.heap[Bn]? = A.heap[Bn]?
theorem Kp.trans {n₀ Bn : Nat} {A B C : World} (h : Kp n₀ Bn A B) (k : Kp n₀ Bn B C) : Kp n₀ Bn A C := ⟨h.1.trans k.1, k.2.trans h.2⟩

/-- What the iterator reads. -/
structure Rds (W : World) (n₀ Bn s b g m : Nat) (ws : List Nat) : Prop where
  box : W.cell? ⟨Bn, 0, none⟩ = some (.pointer (some ⟨s, 0, none⟩))
  map : W.cell? ⟨s, 0, none⟩ = some (.pointer (some ⟨b, 0, none⟩))
  bits : Bits W b g m ws
  tab : Tab W
  lt : s < n₀ ∧ b < n₀ ∧ g < n₀ ∧ 2 < n₀
theorem Rds.keep {A B : World} {n₀ Bn s b g m : Nat} {ws : List Nat} (h : Rds A n₀ Bn s b g m ws) (hk : Kp n₀ Bn A B) : Rds B n₀ Bn s b g m ws :=
  ⟨(World.cell?_of_block hk.2).trans h.box, (hk.1.cell (p := ⟨s, 0, none⟩) h.lt.1).trans h.map, h.bits.blocks (hk.1.block b h.lt.2.1) (hk.1.block g h.lt.2.2.1), h.tab.below hk.1 h.lt.2.2.2, h.lt⟩

def toGo (m : Nat) (v : Value) : Nat := match v with | .int _ r => if r < 0 then 0 else m - r.toNat | _ => 0
theorem toGo_nat (m k : Nat) : toGo m (.int .i64 (k : Int)) = m - k := by
  show (if (k : Int) < 0 then 0 else m - (k : Int).toNat) = m - k
  rw [if_neg (by omega), Int.toNat_natCast]

end Go.Proofs.YthpkmegjbehgaaaDoor

namespace Go.Proofs.YthpkmegjbehgaaaDoor
open Go.RowKit Go.Maps Go.Shelf

theorem oper_inRound {P : Program} {o : Oper} {a : Act} {w : World} {K : Act → World → Prop} {Q : Exit → Act → World → Prop} (l n : Nat) (hd : ∀ c, o.op ≠ .defer c) (h : o.wp P a w K Q) : o.wpIn (Fence.wide.inRound l) n P a w K Q := by
  refine ⟨fun _ _ => trivial, ?_⟩
  have e : Oper.semAt (Fence.wide.inRound l).round a.eval o = execOp a.eval o := Oper.semAt_eq _ _ _ hd
  rw [e]
  unfold Oper.wp at h
  generalize (execOp a.eval o).run P w = r at h ⊢
  cases r with
  | ok x w' =>
    cases x with
    | value v => exact h
    | skip => exact h
    | defer d => exact h
    | enter f args => exact ⟨fun hx => by simp [Fence.inRound, Fence.wide] at hx, CallsIn.inRound l (callsIn_wide.2 h)⟩
    | row row args => exact ⟨fun hx => by simp [Fence.inRound, Fence.wide] at hx, fun c cs _ => by
        obtain ⟨v, w'', hr, hs⟩ := h c cs
        exact ⟨v, w'', hr, stepsIn_wide.2 hs⟩⟩
    | round => exact h.elim
    | _ => exact h.elim
  | halt hh w' =>
    cases hh with
    | panic v => exact h
    | _ => exact h.elim
theorem any_inRound {P : Program} {ops : Array Oper} {Q : Exit → Act → World → Prop} {md : Region.Mode} (l n : Nat) (hd : ∀ (i : Nat) (o : Oper), ops[i]? = some o → ∀ c, o.op ≠ Op.defer c) (hQ : ¬ LetsOut Q) : ∀ (fuel : Nat) (listed : Array Bool) (a : Act) (w : World), wpAny P md ops Q fuel listed a w → wpAnyIn (Fence.wide.inRound l) n P md ops Q fuel listed a w
  | 0, _, _, _, h => h
  | fuel + 1, _, a, w, h => ⟨h.1, fun i hi => by
      have h2 := h.2 i hi
      unfold wpOp at h2
      unfold wpOpIn
      cases ho : ops[i]? with
      | none =>
        rw [ho] at h2
        exact any_inRound l n hd hQ fuel _ a w h2
      | some o =>
        rw [ho] at h2
        simp only at h2 ⊢
        split
        · rename_i hw
          rw [if_pos hw] at h2
          rcases h2 with h2 | h2
          · have h3 := oper_inRound l n (hd i o ho) h2
            refine ⟨h3.1, ?_⟩
            have h4 := h3.2
            revert h4
            generalize (Oper.semAt (Fence.wide.inRound l).round a.eval o).run P w = r
            intro h4
            cases r with
            | ok x w' =>
              cases x with
              | value v => exact any_inRound l n hd hQ fuel _ _ _ h4
              | skip => exact any_inRound l n hd hQ fuel _ _ _ h4
              | defer d => exact any_inRound l n hd hQ fuel _ _ _ h4
              | enter f args => exact ⟨h4.1, h4.2.mono (fun e w'' h5 => by
                  cases e with
                  | returned v => exact any_inRound l n hd hQ fuel _ _ _ h5
                  | panicked c => exact h5
                  | outgrown => exact h5)⟩
              | row row args => exact ⟨h4.1, h4.2.mono (fun v w'' h5 => any_inRound l n hd hQ fuel _ _ _ h5)⟩
              | round l' f tm asg bd => exact ⟨h4.1, h4.2.mono (fun e w'' h5 => by
                  cases e with
                  | returned v => exact any_inRound l n hd hQ fuel _ _ _ h5
                  | panicked c => exact h5
                  | outgrown => exact h5)⟩
              | _ => exact h4
            | halt hh w' =>
              cases hh with
              | panic v => exact h4
              | _ => exact h4.elim
          · exact absurd h2.2 hQ
        · rename_i hw
          rw [if_neg hw] at h2
          exact ⟨fun _ _ => trivial, any_inRound l n hd hQ fuel _ _ _ h2⟩⟩
/-- A region that draws, inside a round: as outside. -/
theorem held_inRound {P : Program} {ops : Array Oper} {Q : Exit → Act → World → Prop} {S : World → Prop} {id l n : Nat} {a : Act} {w : World} (hm : P.follows .mixedOrders = true) (hd : ∀ (i : Nat) (o : Oper), ops[i]? = some o → ∀ c, o.op ≠ Op.defer c) (hQ : ¬ LetsOut Q) (hS : S w.drew)
    (h : S w.drew → wpAnyH P .any ops Q S ops.size (Array.replicate ops.size false) a w.drew) : (Code.region id ops true).wpIn (Fence.wide.inRound l) n P Q a w :=
  wpIn_region_any hm (any_inRound l n hd hQ _ _ _ _ (wpAny_of_held _ _ _ _ (h hS)))

/-- Marks of loops over functions. -/
def marks (Ds : List Nat) : List Deferred := Ds.map fun D => { target := .collected D, args := #[] }
theorem leaves_marks {F : Fence} {n : Nat} {P : Program} {fn : Func} {tmps : Array Value} {R : Ending → World → Prop} : ∀ (Ds : List Nat) (W : World) (I : World → Prop), I W → (∀ D, D ∈ Ds → W.heap[D]? = some (.deferred (some []))) → Ds.Nodup →
    (∀ W D, D ∈ Ds → I W → W.heap[D]? = some (.deferred (some [])) → I (W.putObj D (.deferred none))) → (∀ W, I W → LeavesInM F n P fn tmps R [] .returning W) → LeavesInM F n P fn tmps R (marks Ds) .returning W
  | [], W, I, hI, _, _, _, hend => hend W hI
  | D :: Ds, W, I, hI, hD, hn, hs, hend => by
    refine ⟨by simp, .inl ⟨D, _, rfl, run_takeDeferred (hD D (by simp)), ?_⟩⟩
    have hn2 := List.nodup_cons.1 hn
    refine leaves_marks Ds _ I (hs W D (by simp) hI (hD D (by simp))) (fun D' hD' => ?_) hn2.2 (fun W D' hD' => hs W D' (by simp [hD'])) hend
    have hne : D ≠ D' := fun e => hn2.1 (e ▸ hD')
    have h1 := hD D' (by simp [hD'])
    simp only [World.putObj]
    rw [Array.getElem?_setIfInBounds_ne hne]
    exact h1
end Go.Proofs.YthpkmegjbehgaaaDoor

namespace Go.Proofs.YthpkmegjbehgaaaDoor
open Go.RowKit Go.Maps Go.Shelf
attribute [local go_sem] Oper.semAt_some

theorem ones_congr {f g : Nat → Bool} {n : Nat} (h : ∀ i, i < n → f i = g i) : ones f n = ones g n := List.filter_congr (fun i hi => h i (List.mem_range.1 hi))
/-- What was collected of the first j slabs. -/
def Gt (U : Pls) (sz m N j : Nat) : List Nat := ((pagesOf U m N).take j).flatMap fun p => (ones (U p) m).map (place sz p)
theorem Gt_next {U : Pls} {sz m N j q : Nat} (h : (pagesOf U m N)[j]? = some q) : Gt U sz m N (j + 1) = Gt U sz m N j ++ (ones (U q) m).map (place sz q) := by
  obtain ⟨hj, rfl⟩ := List.getElem?_eq_some_iff.1 h
  unfold Gt
  rw [List.take_succ_eq_append_getElem hj, List.flatMap_append]
  simp
theorem Gt_all (U : Pls) (sz m N : Nat) : Gt U sz m N (pagesOf U m N).length = usedOf U sz m N := by
  unfold Gt usedOf
  rw [List.take_of_length_le (Nat.le_refl _)]
theorem pagesOf_len (U : Pls) (m N : Nat) : (pagesOf U m N).length ≤ N := by
  unfold pagesOf
  rw [ones_len]
  exact cnt_le _ _
theorem Gt_len (U : Pls) (sz m N : Nat) : ∀ j, (Gt U sz m N j).length ≤ j * m
  | 0 => by simp [Gt]
  | j + 1 => by
    have ih := Gt_len U sz m N j
    cases h : (pagesOf U m N)[j]? with
    | none =>
      have hl : (pagesOf U m N).length ≤ j := by simpa using h
      have e : Gt U sz m N (j + 1) = Gt U sz m N j := by
        unfold Gt
        rw [List.take_of_length_le (by omega), List.take_of_length_le hl]
      rw [e, Nat.add_mul]; omega
    | some q =>
      rw [Gt_next h, List.length_append, List.length_map, ones_len, Nat.add_mul]
      have := cnt_le (U q) m
      omega
theorem slabs_get {U : Pls} {m N j q : Nat} (h : (pagesOf U m N)[j]? = some q) : (slabsOf U m N)[j]? = some (q * 1024) := by
  unfold slabsOf
  rw [List.getElem?_map, h]
  rfl

def nodef (o : Oper) : Bool := match o.op with | .defer _ => false | _ => true
theorem nodef_of {ops : Array Oper} (h : ops.toList.all nodef = true) : ∀ (i : Nat) (o : Oper), ops[i]? = some o → ∀ c, o.op ≠ Op.defer c := fun i o ho c e => by
  have hm : o ∈ ops.toList := by rw [Array.mem_toList_iff]; exact Array.mem_of_getElem? ho
  have := List.all_eq_true.1 h o hm
  unfold nodef at this
  rw [e] at this
  cases this

/-- An append whose run is known, at a step of a region that draws. -/
theorem step_append_run {P : Program} (w w' : World) (v' : Value) {ops : Array Oper} {o : Oper} {a : Act} {K : Act → World → Prop} {Q : Exit → Act → World → Prop} {E : Prop} (hgd : o.guard = none) (s x : Operand) (t : TypeId)
    (ho : o.op = .call { callee := .builtin .append, args := #[s, x], argTypes := #[t, t] }) (v y : Value) (hs : a.eval s = v) (hx : a.eval x = y) (hr : (Builtin.append_ #[t, t] o.type #[v, y]).run P w = .ok v' w') (h : K (a.put o.dst v') w') :
    if Region.wanted o (yielded ops a.tmps) = true then Oper.wp P o a w K Q else E := by
  have hw : Region.wanted o (yielded ops a.tmps) = true := by simp [Region.wanted, hgd]
  rw [if_pos hw]
  unfold Oper.wp
  simp [execOp, ho, resolve, invoke, builtin, hs, hx, hr, Result.andThen]
  exact h

/-- The marks that stand. -/
def Mk (Ds : List Nat) (n1 : Nat) (W : World) : Prop := Ds.Nodup ∧ ∀ D, D ∈ Ds → n1 ≤ D ∧ W.heap[D]? = some (.deferred (some []))
/-- What is collected, beside a block ba that isn't its own. -/
def Col (w1 : World) (bl ba : Nat) (y : Int) (Ds : List Nat) (l : List Nat) (W : World) : Prop :=
  Turn (fun x => x = bl) w1 W ∧ Mk Ds w1.heap.size W ∧ ba + 1 < W.heap.size ∧ Boxed W ba 3 (.int .i64 y) ∧ ∃ v, Boxed W bl 38 v ∧ W.ownsRow w1.heap.size 3 1 v l.length (nums l) ∧ ∀ x, v.ownBlock = some x → x ≠ ba ∧ x ≠ ba + 1
theorem infoI : (Tryd.prog.info? 3).map (fun i => (i.zero, i.size, i.bytes)) = some (some (.int .i64 0), 1, 8) := by kernel_rfl
theorem turn_ownFrom {β : Type} (w1 : World) (bl B : Nat) (hB : w1.heap.size ≤ B) : OwnFrom (β := β) B (fun _ W => Turn (fun x => x = bl) w1 W) := fun _ _ _ row hs hg hr =>
  hs.next (Turn.of_grown (S := fun x => row = some x) hg (fun _ e => .inl e)) (fun x e => .inr (Nat.le_trans hB (hr x e).1))
theorem mk_ownFrom {β : Type} (Ds : List Nat) (n1 B : Nat) (hB : ∀ D, D ∈ Ds → D < B) : OwnFrom (β := β) B (fun _ W => Mk Ds n1 W) := fun _ _ _ _ hs hg hr =>
  ⟨hs.1, fun D hD => ⟨(hs.2 D hD).1, (hg.block D (Array.getElem?_eq_some_iff.1 (hs.2 D hD).2).1 (fun e => by have := (hr D e.symm).1; have := hB D hD; omega)).trans (hs.2 D hD).2⟩⟩
theorem col_ownFrom (w1 : World) (bl ba : Nat) (y : Int) (Ds : List Nat) (f : List (Fin 1024) → List Nat) (B : Nat) (hB : w1.heap.size ≤ B) (hD : ∀ D, D ∈ Ds → D < B) : OwnFrom B (fun pre W => Col w1 bl ba y Ds (f pre) W) :=
  OwnFrom.and (turn_ownFrom w1 bl B hB) (OwnFrom.and (mk_ownFrom Ds w1.heap.size B hD) (OwnFrom.and (fun _ _ _ _ hs hg _ => Nat.lt_of_lt_of_le hs hg.size) (OwnFrom.and (fun _ W _ _ hs hg hr => hs.kept hg (fun e => by
    obtain ⟨_, o, ho, hc⟩ := hr ba e.symm
    rw [show W.heap[ba]? = _ from hs] at ho
    cases ho
    cases hc)) (Own.from (holdsRow_own w1.heap.size bl 38 3 1 (fun pre => (f pre).length) (fun pre => nums (f pre)) (fun _ v => ∀ x, v.ownBlock = some x → x ≠ ba ∧ x ≠ ba + 1)) B))))

end Go.Proofs.YthpkmegjbehgaaaDoor

namespace Go.Proofs.YthpkmegjbehgaaaDoor
open Go.RowKit Go.Maps

def none_ : Pls := fun _ _ => false
theorem none_slb (m q : Nat) : ¬ Slb none_ m q := fun ⟨_, _, h⟩ => by cases h
theorem none_open (m q : Nat) : ¬ Opened none_ m q := fun h => none_slb m q h.1
theorem map_made {w : World} {b : Nat} (h : w.heap[b]? = some (.map #[] 0)) : Pmap w b 0 (.map []) := by
  obtain ⟨es, cl, hb, F, hs, hD⟩ := World.ownsMap_made w Tryd.prog 3 ptrElem
  have e := (heap_alloc_new w (.map #[] 0)).symm.trans hb
  obtain ⟨rfl, rfl⟩ : #[] = es ∧ 0 = cl := by simpa using e
  exact ⟨#[], 0, h, F, hs, hD⟩
/-- A new cache. -/
theorem new_sl {w w' : World} {b z m : Nat} {e : Ending} (h : SNewPost w b z e w') : ∃ c, e = .returned (.pointer (some ⟨c, 0, none⟩)) ∧ Below w.heap.size w w' ∧ Sl w' (fun x => w.heap.size ≤ x ∧ x < w'.heap.size) c b z m 0 none_ := by
  obtain ⟨c, mb, rfl, hc, hmb, hb, h1, h2, _⟩ := h
  refine ⟨c, rfl, hb, mb, 0, .map [], none, 0, 0, fun _ => 0, fun _ => 0, fun _ => 0, fun _ => 0, fun _ => [], ⟨hc, map_made hmb, Says.start.congr (fun p => ⟨fun h => none_slb _ _ h, fun h => h.elim⟩) (fun _ h => h.elim), fun q hq => absurd hq (none_slb _ _), fun q hq => absurd hq (none_slb _ _), fun q hq => absurd hq (none_slb _ _), .inl ⟨rfl, rfl, rfl⟩, fun k _ hk => absurd hk (Nat.not_lt_zero _), fun q => ⟨fun ⟨k, hk, _⟩ => absurd hk (Nat.not_lt_zero _), fun h => absurd h (none_open _ _)⟩, fun q hq => absurd hq (none_open _ _), fun q _ hq => absurd hq (none_slb _ _), fun q _ hq => absurd hq (none_slb _ _)⟩, ?_, Nat.le_refl _⟩
  rintro x (rfl | rfl | ⟨ad, e, _⟩ | ⟨q, hq, _⟩)
  · exact ⟨h1, lt_of hc⟩
  · exact ⟨h2, lt_of hmb⟩
  · cases e
  · exact absurd hq (none_slb _ _)

/-- Sizes that may be. -/
structure Sz (sz m K : Nat) : Prop where
  lo : 16 ≤ sz
  hi : sz ≤ 512
  m : m = 960 / sz
  k6 : 6 ≤ K
  k20 : K ≤ 20
theorem Sz.page {sz m K : Nat} (h : Sz sz m K) : 64 + m * sz ≤ 1024 := by have := Nat.div_mul_le_self 960 sz; rw [h.m]; omega
theorem Sz.few {sz m K : Nat} (h : Sz sz m K) : m ≤ 60 := by rw [h.m]; exact Nat.le_trans (Nat.div_le_div_left h.lo (by omega)) (by omega)
theorem Sz.one {sz m K : Nat} (h : Sz sz m K) : 0 < m := by rw [h.m]; have := h.hi; have := h.lo; exact Nat.div_pos (by omega) (by omega)
theorem Sz.pages {sz m K : Nat} (h : Sz sz m K) : 2 ^ K ≤ 1048576 := pow_le20 h.k20
theorem Sz.pos {sz m K : Nat} (h : Sz sz m K) : 0 < sz := by have := h.lo; omega

/-- A cache over an allocator, both made behind the world w0; blocks that are others' (G). -/
def Sys (w0 : World) (Bd : Nat) (G : Nat → Prop) (w : World) (p c K sz m ct : Nat) (B : St) (U : Pls) : Prop :=
  ∃ (Z : Nat → Prop) (mm : Nat) (bf gf : Nat → Nat), Below Bd w0 w ∧ Bd ≤ w.heap.size ∧ Tab w ∧ 2 < Bd ∧ Sl w Z c p sz m ct U ∧ Good w p mm K bf gf B ct ∧ (∀ x, Z x → ¬ AB p mm K bf gf x) ∧ (∀ x, Z x → Bd ≤ x) ∧ (∀ x, Own mm K gf x → Bd ≤ x) ∧ Fit B U m (2 ^ K) ∧ ∀ x, G x → Bd ≤ x ∧ x < w.heap.size ∧ ¬ Z x ∧ ¬ AB p mm K bf gf x

section
variable {w0 w w' : World} {Bd p c K sz m ct : Nat} {G : Nat → Prop} {B : St} {U : Pls}
theorem Sys.below (h : Sys w0 Bd G w p c K sz m ct B U) (hb : Below w.heap.size w w') : Sys w0 Bd G w' p c K sz m ct B U := by
  obtain ⟨Z, mm, bf, gf, h1, h2, h3, h4, h5, h6, h7, h8, h9, h10, h11⟩ := h
  exact ⟨Z, mm, bf, gf, Below.of_below h1 h2 hb, Nat.le_trans h2 hb.size, h3.below hb h3.pos, h4, h5.below hb, h6.below hb, h7, h8, h9, h10, fun x hx => ⟨(h11 x hx).1, Nat.lt_of_lt_of_le (h11 x hx).2.1 hb.size, (h11 x hx).2.2⟩⟩
/-- What a call has made that turns nothing is others'. -/
theorem Sys.add (h : Sys w0 Bd G w p c K sz m ct B U) (hb : Below w.heap.size w w') : Sys w0 Bd (fun x => G x ∨ w.heap.size ≤ x ∧ x < w'.heap.size) w' p c K sz m ct B U := by
  obtain ⟨Z, mm, bf, gf, h1, h2, h3, h4, h5, h6, h7, h8, h9, h10, h11⟩ := h
  refine ⟨fun x => Z x ∧ x < w.heap.size, mm, bf, gf, Below.of_below h1 h2 hb, Nat.le_trans h2 hb.size, h3.below hb h3.pos, h4, h5.own.below hb, h6.below hb, fun x hx => h7 x hx.1, fun x hx => h8 x hx.1, h9, h10, fun x hx => ?_⟩
  rcases hx with hx | ⟨e1, e2⟩
  · exact ⟨(h11 x hx).1, Nat.lt_of_lt_of_le (h11 x hx).2.1 hb.size, fun h => (h11 x hx).2.2.1 h.1, (h11 x hx).2.2.2⟩
  · exact ⟨by omega, e2, fun h => by omega, fun h => by have := h6.lab h; omega⟩
/-- .. also where others' blocks turn. -/
theorem Sys.grown (h : Sys w0 Bd G w p c K sz m ct B U) (ht : Turn G w w') : Sys w0 Bd (fun x => G x ∨ w.heap.size ≤ x ∧ x < w'.heap.size) w' p c K sz m ct B U := by
  obtain ⟨Z, mm, bf, gf, h1, h2, h3, h4, h5, h6, h7, h8, h9, h10, h11⟩ := h
  refine ⟨fun x => Z x ∧ x < w.heap.size, mm, bf, gf, Below.of_turn h1 h2 ht (fun x hx => (h11 x hx).1), Nat.le_trans h2 ht.size, h3.turn ht (fun hx => by have := (h11 2 hx).1; omega), h4, h5.own.turn ht (fun x hx hg => (h11 x hg).2.2.1 hx.1), h6.turn ht (fun x hx hg => (h11 x hg).2.2.2 hx), fun x hx => h7 x hx.1, fun x hx => h8 x hx.1, h9, h10, fun x hx => ?_⟩
  rcases hx with hx | ⟨e1, e2⟩
  · exact ⟨(h11 x hx).1, Nat.lt_of_lt_of_le (h11 x hx).2.1 ht.size, fun h => (h11 x hx).2.2.1 h.1, (h11 x hx).2.2.2⟩
  · exact ⟨by omega, e2, fun h => by omega, fun h => by have := h6.lab h; omega⟩
theorem Sys.fewer {G' : Nat → Prop} (h : Sys w0 Bd G w p c K sz m ct B U) (hg : ∀ x, G' x → G x) : Sys w0 Bd G' w p c K sz m ct B U := by
  obtain ⟨Z, mm, bf, gf, h1, h2, h3, h4, h5, h6, h7, h8, h9, h10, h11⟩ := h
  exact ⟨Z, mm, bf, gf, h1, h2, h3, h4, h5, h6, h7, h8, h9, h10, fun x hx => h11 x (hg x hx)⟩
/-- Others' blocks may turn. -/
theorem Sys.others (h : Sys w0 Bd G w p c K sz m ct B U) (ht : Turn G w w') : Sys w0 Bd G w' p c K sz m ct B U := by
  obtain ⟨Z, mm, bf, gf, h1, h2, h3, h4, h5, h6, h7, h8, h9, h10, h11⟩ := h
  exact ⟨Z, mm, bf, gf, Below.of_turn h1 h2 ht (fun x hx => (h11 x hx).1), Nat.le_trans h2 ht.size, h3.turn ht (fun hx => by have := (h11 2 hx).1; omega), h4, h5.turn ht (fun x hx hg => (h11 x hg).2.2.1 hx), h6.turn ht (fun x hx hg => (h11 x hg).2.2.2 hx), h7, h8, h9, h10, fun x hx => ⟨(h11 x hx).1, Nat.lt_of_lt_of_le (h11 x hx).2.1 ht.size, (h11 x hx).2.2⟩⟩
theorem Sys.same (h : Sys w0 Bd G w p c K sz m ct B U) (k : Nat) : Sys w0 Bd G (w.drewN k) p c K sz m ct B U := h.below (below_drewN (Below.refl _ w) k)
theorem Sys.b0 (h : Sys w0 Bd G w p c K sz m ct B U) : Below Bd w0 w := h.choose_spec.choose_spec.choose_spec.choose_spec.1
theorem Sys.more {ct' : Nat} (h : Sys w0 Bd G w p c K sz m ct B U) (hc : ct ≤ ct') : Sys w0 Bd G w p c K sz m ct' B U := by
  obtain ⟨Z, mm, bf, gf, h1, h2, h3, h4, h5, h6, h7, h8, h9, h10, h11⟩ := h
  exact ⟨Z, mm, bf, gf, h1, h2, h3, h4, h5.wide (fun _ h => h) hc, h6.more hc, h7, h8, h9, h10, h11⟩
theorem Sys.fit (h : Sys w0 Bd G w p c K sz m ct B U) : Fit B U m (2 ^ K) := by
  obtain ⟨Z, mm, bf, gf, h1, h2, h3, h4, h5, h6, h7, h8, h9, h10, h11⟩ := h
  exact h10
theorem Sys.inv (h : Sys w0 Bd G w p c K sz m ct B U) : Inv K B ∧ NoHeld B := by
  obtain ⟨Z, mm, bf, gf, h1, h2, h3, h4, h5, h6, h7, h8, h9, h10, h11⟩ := h
  exact ⟨h6.1, h6.2.1⟩

def TakeS (w0 : World) (Bd : Nat) (G : Nat → Prop) (w : World) (p c K sz m ct : Nat) (B : St) (U : Pls) (e : Ending) (w' : World) : Prop :=
  ∃ B' U', Sys w0 Bd G w' p c K sz m (ct + 1) B' U' ∧ (∀ x, G x → w'.heap[x]? = w.heap[x]?) ∧
    ((e = .returned (.tuple #[.int .i64 0, .int .i64 4]) ∧ (∀ q, ¬ Opened U m q) ∧ (∀ k j, B k j ≠ .free) ∧ B' = B ∧ U' = U) ∨
     ∃ q i, e = .returned (.tuple #[.int .i64 ((place sz q i : Nat) : Int), .int .i64 0]) ∧ Taken U U' m q i ∧ Came B B' U m q)
theorem Sys.take (h : Sys w0 Bd G w p c K sz m ct B U) (hz : Sz sz m K) (hc : ct ≤ 1000000) : Calls Tryd.prog 26 #[.pointer (some ⟨c, 0, none⟩)] w (TakeS w0 Bd G w p c K sz m ct B U) := by
  obtain ⟨Z, mm, bf, gf, h1, h2, h3, h4, h5, h6, h7, h8, h9, h10, h11⟩ := h
  refine (stake_any h5 h6 h7 h3 (fun h => by rcases h with h | h; have := h8 2 h; omega; have := h9 2 h; omega) hc hz.k20 rfl h10 hz.lo hz.hi hz.m).mono ?_
  rintro e w' ⟨Z', B', ht, hZ', hG', hh⟩
  have hb : Below Bd w0 w' := Below.of_turn h1 h2 ht (fun x hx => hx.elim (h8 x) (h9 x))
  have hT' : Tab w' := h3.turn ht (fun h => by rcases h with h | h; have := h8 2 h; omega; have := h9 2 h; omega)
  have hs := Nat.le_trans h2 ht.size
  have hd' : ∀ x, Z' x → ¬ AB p mm K bf gf x := fun x hx ha => by
    rcases hZ' x hx with e | e
    · exact h7 x e ha
    · have := h6.lab ha; omega
  have hB' : ∀ x, Z' x → Bd ≤ x := fun x hx => (hZ' x hx).elim (h8 x) (fun e => by omega)
  have hg : ∀ x, G x → w'.heap[x]? = w.heap[x]? := fun x hx => ht.block x (h11 x hx).2.1 (fun h => h.elim (h11 x hx).2.2.1 (fun ho => (h11 x hx).2.2.2 ho.ab))
  have h11' : ∀ x, G x → Bd ≤ x ∧ x < w'.heap.size ∧ ¬ Z' x ∧ ¬ AB p mm K bf gf x := fun x hx => ⟨(h11 x hx).1, Nat.lt_of_lt_of_le (h11 x hx).2.1 ht.size, fun h => (hZ' x h).elim (h11 x hx).2.2.1 (fun e => by have := (h11 x hx).2.1; omega), (h11 x hx).2.2.2⟩
  rcases hh with ⟨rfl, e1, e2, rfl, e4⟩ | ⟨q, i, U', rfl, e1, e2, e3, e4⟩
  · exact ⟨_, _, ⟨Z', mm, bf, gf, hb, hs, hT', h4, e4, hG', hd', hB', h9, h10, h11'⟩, hg, .inl ⟨rfl, e1, e2, rfl, rfl⟩⟩
  · exact ⟨_, _, ⟨Z', mm, bf, gf, hb, hs, hT', h4, e2, hG', hd', hB', h9, e3, h11'⟩, hg, .inr ⟨q, i, rfl, e1, e4⟩⟩

def GiveS (w0 : World) (Bd : Nat) (G : Nat → Prop) (w : World) (p c K sz m ct : Nat) (B : St) (U : Pls) (x : Int) (e : Ending) (w' : World) : Prop :=
  ∃ B' U', Sys w0 Bd G w' p c K sz m ct B' U' ∧ (∀ x, G x → w'.heap[x]? = w.heap[x]?) ∧
    ((e = .returned (.int .i64 6) ∧ (∀ q i, i < m → U q i = true → x ≠ ((place sz q i : Nat) : Int)) ∧ B' = B ∧ U' = U) ∨
     ∃ q i, e = .returned (.int .i64 0) ∧ Given U U' m q i ∧ x = ((place sz q i : Nat) : Int) ∧ ((Slb U' m q ∧ B' = B) ∨ (¬ Slb U' m q ∧ Less B B' 0 q)))
theorem Sys.give (h : Sys w0 Bd G w p c K sz m ct B U) (hz : Sz sz m K) (x : Int) (hx1 : -9223372036854775808 ≤ x) (hx2 : x < 9223372036854775808) : Calls Tryd.prog 81 #[.pointer (some ⟨c, 0, none⟩), .int .i64 x] w (GiveS w0 Bd G w p c K sz m ct B U x) := by
  obtain ⟨Z, mm, bf, gf, h1, h2, h3, h4, h5, h6, h7, h8, h9, h10, h11⟩ := h
  refine (sgive_any x h5 h6 h7 h3 (fun h => by rcases h with h | h; have := h8 2 h; omega; have := h9 2 h; omega) hz.pages h10 hz.lo hz.hi hz.m hx1 hx2).mono ?_
  rintro e w' ⟨Z', B', ht, hZ', hG', hh⟩
  have hb : Below Bd w0 w' := Below.of_turn h1 h2 ht (fun x hx => hx.elim (h8 x) (h9 x))
  have hT' : Tab w' := h3.turn ht (fun h => by rcases h with h | h; have := h8 2 h; omega; have := h9 2 h; omega)
  have hs := Nat.le_trans h2 ht.size
  have hd' : ∀ x, Z' x → ¬ AB p mm K bf gf x := fun x hx ha => by
    rcases hZ' x hx with e | e
    · exact h7 x e ha
    · have := h6.lab ha; omega
  have hB' : ∀ x, Z' x → Bd ≤ x := fun x hx => (hZ' x hx).elim (h8 x) (fun e => by omega)
  have hg : ∀ x, G x → w'.heap[x]? = w.heap[x]? := fun x hx => ht.block x (h11 x hx).2.1 (fun h => h.elim (h11 x hx).2.2.1 (fun ho => (h11 x hx).2.2.2 ho.ab))
  have h11' : ∀ x, G x → Bd ≤ x ∧ x < w'.heap.size ∧ ¬ Z' x ∧ ¬ AB p mm K bf gf x := fun x hx => ⟨(h11 x hx).1, Nat.lt_of_lt_of_le (h11 x hx).2.1 ht.size, fun h => (hZ' x h).elim (h11 x hx).2.2.1 (fun e => by have := (h11 x hx).2.1; omega), (h11 x hx).2.2.2⟩
  rcases hh with ⟨rfl, e1, rfl, e4⟩ | ⟨q, i, rfl, e1, e2, e3, e4, e5, e6⟩
  · exact ⟨_, _, ⟨Z', mm, bf, gf, hb, hs, hT', h4, e4, hG', hd', hB', h9, h10, h11'⟩, hg, .inl ⟨rfl, e1, rfl, rfl⟩⟩
  · exact ⟨_, _, ⟨Z', mm, bf, gf, hb, hs, hT', h4, e4, hG', hd', hB', h9, e5, h11'⟩, hg, .inr ⟨q, i, rfl, ⟨e1, e2, rfl⟩, e3, e6⟩⟩
theorem Sys.has (h : Sys w0 Bd G w p c K sz m ct B U) (hz : Sz sz m K) (x : Int) (hx1 : -9223372036854775808 ≤ x) (hx2 : x < 9223372036854775808) : Calls Tryd.prog 80 #[.pointer (some ⟨c, 0, none⟩), .int .i64 x] w (SHasPost w sz m U x) := by
  obtain ⟨Z, mm, bf, gf, h1, h2, h3, h4, h5, h6, h7, h8, h9, h10, h11⟩ := h
  exact shas_any x h5 hz.lo hz.hi hz.m hx1 hx2
theorem Sys.c1 (h : Sys w0 Bd G w p c K sz m ct B U) : w.cell? ⟨c, 1, none⟩ = some (.int .i64 (sz : Int)) := by
  obtain ⟨Z, mm, bf, gf, h1, h2, h3, h4, ⟨mb, nm, D, a, cap, nn, L, sb, bm, gm, ws, hC, _⟩, _⟩ := h
  exact hC.c1
end
/-- Both are made. -/
theorem sys_new {w0 w : World} {Bd p mm K sz m : Nat} {bf gf : Nat → Nat} {w' : World} {e : Ending} (hb : Below Bd w0 w) (hB : Bd ≤ w.heap.size) (hT : Tab w) (h1 : 2 < Bd) (hG : Good w p mm K bf gf (begin_ K) 0) (ho : ∀ x, Own mm K gf x → Bd ≤ x) (h : SNewPost w p sz e w') :
    ∃ c, e = .returned (.pointer (some ⟨c, 0, none⟩)) ∧ Below w.heap.size w w' ∧ Sys w0 Bd (fun _ => False) w' p c K sz m 0 (begin_ K) none_ := by
  obtain ⟨c, rfl, hb2, hS⟩ := new_sl (m := m) h
  refine ⟨c, rfl, hb2, _, mm, bf, gf, Below.of_below hb hB hb2, Nat.le_trans hB hb2.size, hT.below hb2 hT.pos, h1, hS, hG.below hb2, fun x hx ha => by have := hG.lab ha; omega, fun x hx => by omega, ho, ⟨fun q hq => absurd hq (none_slb _ _), fun _ _ h => by cases h⟩, fun _ h => h.elim⟩
end Go.Proofs.YthpkmegjbehgaaaDoor

namespace Go.Proofs.YthpkmegjbehgaaaDoor
open Go.RowKit Go.Maps

/-- The used blocks are just the slabs. -/
def Exact (B : St) (U : Pls) (m : Nat) : Prop := ∀ k i, B k i = .used ↔ k = 0 ∧ Slb U m i
theorem Exact.start (K m : Nat) : Exact (begin_ K) none_ m := fun k i => ⟨fun h => absurd ((begin_us K k i).1 h) (by simp), fun h => absurd h.2 (none_slb _ _)⟩
theorem Exact.take {B B' : St} {U U' : Pls} {m q i : Nat} (h : Exact B U m) (ht : Taken U U' m q i) (hc : Came B B' U m q) : Exact B' U' m := fun k r => by
  have hs : Slb U' m r ↔ Slb U m r ∨ r = q := by
    rw [ht.now]
    by_cases e : r = q
    · subst e; exact ⟨fun _ => .inr rfl, fun _ => slb_on ht.lt⟩
    · rw [slb_other true e]; exact ⟨.inl, fun h => h.resolve_right e⟩
  rcases hc with ⟨h1, rfl⟩ | ⟨_, _, _, hp, _⟩
  · rw [h k r, hs]
    exact ⟨fun ⟨a, b⟩ => ⟨a, .inl b⟩, fun ⟨a, b⟩ => ⟨a, b.elim id (fun e => e ▸ h1)⟩⟩
  · rw [hp k r, h k r, hs]
    exact ⟨fun e => e.elim (fun ⟨a, b⟩ => ⟨a, .inl b⟩) (fun ⟨a, b⟩ => ⟨a, .inr b⟩), fun ⟨a, b⟩ => b.elim (fun b => .inl ⟨a, b⟩) (fun b => .inr ⟨a, b⟩)⟩
theorem Exact.give {B B' : St} {U U' : Pls} {m q i : Nat} (h : Exact B U m) (ht : Given U U' m q i) (hc : (Slb U' m q ∧ B' = B) ∨ (¬ Slb U' m q ∧ Less B B' 0 q)) : Exact B' U' m := fun k r => by
  have hq : Slb U m q := ⟨i, ht.lt, ht.used⟩
  have hs : r ≠ q → (Slb U' m r ↔ Slb U m r) := fun e => by rw [ht.now]; exact slb_other false e
  rcases hc with ⟨h1, rfl⟩ | ⟨h1, hl⟩
  · rw [h k r]
    by_cases e : r = q
    · subst e; exact ⟨fun ⟨a, _⟩ => ⟨a, h1⟩, fun ⟨a, _⟩ => ⟨a, hq⟩⟩
    · rw [hs e]
  · rw [hl k r, h k r]
    by_cases e : r = q
    · subst e
      exact ⟨fun ⟨⟨a, _⟩, b⟩ => absurd ⟨a, rfl⟩ b, fun ⟨_, b⟩ => absurd b h1⟩
    · rw [hs e]
      exact ⟨fun ⟨a, _⟩ => a, fun a => ⟨a, fun b => e b.2⟩⟩
theorem pages_zero {K : Nat} {f : Nat → Nat → Bool} : ∀ {N : Nat}, (∀ k i, k < N → f k i = false) → pages K f N = 0
  | 0, _ => rfl
  | N + 1, h => by
    unfold pages
    have e : cnt (f N) (2 ^ (K - N)) = 0 := by
      have : cnt (f N) (2 ^ (K - N)) = cnt (fun _ => false) (2 ^ (K - N)) := cnt_congr (fun i _ => h N i (by omega))
      rw [this]
      have e2 : ∀ n, cnt (fun _ => false) n = 0 := fun n => by
        induction n with
        | zero => rfl
        | succ n ih => unfold cnt; rw [ih]; rfl
      exact e2 _
    rw [pages_zero (fun k i hk => h k i (by omega)), e]; omega
theorem pages_low {K : Nat} {f : Nat → Nat → Bool} (h : ∀ k i, 0 < k → f k i = false) : ∀ N, pages K f (N + 1) = cnt (f 0) (2 ^ K)
  | 0 => by simp [pages]
  | N + 1 => by
    have ih := pages_low (K := K) h N
    show pages K f (N + 1) + cnt (f (N + 1)) (2 ^ (K - (N + 1))) * 2 ^ (N + 1) = _
    rw [ih]
    have e : cnt (f (N + 1)) (2 ^ (K - (N + 1))) = 0 := by
      have : cnt (f (N + 1)) (2 ^ (K - (N + 1))) = cnt (fun _ => false) (2 ^ (K - (N + 1))) := cnt_congr (fun i _ => h (N + 1) i (by omega))
      rw [this]
      have e2 : ∀ n, cnt (fun _ => false) n = 0 := fun n => by
        induction n with
        | zero => rfl
        | succ n ih => unfold cnt; rw [ih]; rfl
      exact e2 _
    rw [e]; omega
/-- How many pages are left, by how many slabs there are. -/
theorem Exact.left {B : St} {U : Pls} {m K : Nat} (h : Exact B U m) (hi : Inv K B) (hn : NoHeld B) : pages K (isK B .free) (K + 1) + (slabsOf U m (2 ^ K)).length = 2 ^ K := by
  have e1 := pages_all hi hn
  have e2 : pages K (isK B .used) (K + 1) = cnt (fun p => decide (0 < cnt (U p) m)) (2 ^ K) := by
    rw [pages_low (fun k i hk => by unfold isK; simp; intro e; have := ((h k i).1 e).1; omega)]
    refine cnt_congr (fun i _ => ?_)
    unfold isK
    rw [decide_eq_decide, h 0 i, slb_cnt]
    simp
  have e3 : (slabsOf U m (2 ^ K)).length = cnt (fun p => decide (0 < cnt (U p) m)) (2 ^ K) := by
    unfold slabsOf
    rw [List.length_map]
    unfold pagesOf
    rw [ones_len]
  omega
theorem ints_len {w : World} {base : Nat} {v : Value} {l : List Nat} {k : Nat} (h : w.ownsRow base 3 1 v l.length (nums l)) (hk : l.length = k) : ∃ a cap, v = .slice a k cap ∧ Ints w base a l := by subst hk; exact ints_of h
end Go.Proofs.YthpkmegjbehgaaaDoor
