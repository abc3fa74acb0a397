/- The library's maps.Keys, slices.Sorted and slices.Sort lie in this program as on the shelf. · A cache: Slabs. · The numbers of a slab's used places, one by one: the iterator. · A region that draws its order, inside a round of a loop over a function; marks of such loops among the deferred calls. · A cache: Used. · A cache over an allocator, between two calls. · A cache that is alone over its allocator: the used blocks are its slabs; the function alive. -/
import Derived.Shelf.SlIterI.Nil
import Derived.Shelf.SortM.Plain
import Derived.Shelf.SortM.SortNone
import Derived.Ground.GgzProg
import Derived.Ground.SlgmProg
import Derived.Test.YtdmnemgooagehaaGreatDoorChecked
import Derived.Test.YtdmnemgooagehaaGreatDoorWd
import Derived.RangeFuncNested
import Derived.RangeFuncBound
import Derived.RangeFuncCalls
import Derived.RangeFuncLeaves
import Derived.RangeFuncBox
import Derived.Shelf.Abstract
import Derived.Shelf.RegionOpen
import Derived.WalkKit
import Derived.OwnWalkIn
import Derived.TacticsInMore
import Derived.LoopNIn
import Derived.LoopIn
import Derived.Maps.AppendAt
namespace Go.Proofs
open Go.Shelf
def Tryz.keysP_ren : Go.Shelf.Ren := ⟨fun | 7 => 80 | 10 => 135 | n => n, fun | 23 => 109 | 26 => 3 | 3 => 115 | 28 => 127 | 0 => 0 | 27 => 126 | 33 => 28 | 4 => 4 | n => n, fun | n => n⟩
theorem Tryz.keysP : Go.Proofs.SlLaysZI.n7 Tryz.prog Tryz.keysP_ren := {
  mixed := by kernel_rfl
  f7 := ⟨Tryz.f80.name, by decide, Tryz.func80.trans (congrArg some (by kernel_rfl))⟩
  f10 := ⟨Tryz.f135.name, by decide, Tryz.func135.trans (congrArg some (by kernel_rfl))⟩
  t0 := Tryz.underlying0
  a0 := Tryz.isAgg0
  z0 := Tryz.sizeOf0
  v0 := Tryz.zeroValue0
  t4 := Tryz.underlying4
  a4 := Tryz.isAgg4
  z4 := Tryz.sizeOf4
  v4 := Tryz.zeroValue4
  t23 := Tryz.underlying109
  a23 := Tryz.isAgg109
  z23 := Tryz.sizeOf109
  v23 := Tryz.zeroValue109
  t26 := Tryz.underlying3
  a26 := Tryz.isAgg3
  z26 := Tryz.sizeOf3
  v26 := Tryz.zeroValue3
  t27 := Tryz.underlying126
  a27 := Tryz.isAgg126
  z27 := Tryz.sizeOf126
  v27 := Tryz.zeroValue126
  t28 := Tryz.underlying127
  a28 := Tryz.isAgg127
  z28 := Tryz.sizeOf127
  v28 := Tryz.zeroValue127
  t33 := Tryz.underlying28
  a33 := Tryz.isAgg28
  z33 := Tryz.sizeOf28
  v33 := Tryz.zeroValue28 }
def Tryz.sortedP_ren : Go.Shelf.Ren := ⟨fun | 6 => 79 | 8 => 133 | 9 => 134 | 11 => 147 | 13 => 149 | 12 => 148 | 23 => 161 | 24 => 162 | 14 => 152 | 15 => 153 | 16 => 154 | 17 => 155 | 18 => 156 | 19 => 157 | 20 => 158 | 21 => 159 | 22 => 160 | 25 => 171 | 26 => 172 | 27 => 173 | 28 => 174 | 29 => 175 | 30 => 151 | 31 => 179 | n => n, fun | 26 => 3 | 28 => 127 | 24 => 34 | 0 => 0 | 3 => 3 | 37 => 101 | 48 => 174 | 50 => 72 | 4 => 4 | 40 => 204 | 39 => 203 | 45 => 198 | 5 => 5 | 9 => 9 | 51 => 214 | 55 => 218 | 57 => 222 | 58 => 43 | 33 => 28 | n => n, fun | n => n⟩
theorem Tryz.sortedP : Go.Proofs.SlLaysZI.n6 Tryz.prog Tryz.sortedP_ren := {
  mixed := by kernel_rfl
  f6 := ⟨Tryz.f79.name, by decide, Tryz.func79.trans (congrArg some (by kernel_rfl))⟩
  f8 := ⟨Tryz.f133.name, by decide, Tryz.func133.trans (congrArg some (by kernel_rfl))⟩
  f11 := ⟨Tryz.f147.name, by decide, Tryz.func147.trans (congrArg some (by kernel_rfl))⟩
  t0 := Tryz.underlying0
  a0 := Tryz.isAgg0
  z0 := Tryz.sizeOf0
  v0 := Tryz.zeroValue0
  t24 := Tryz.underlying34
  a24 := Tryz.isAgg34
  z24 := Tryz.sizeOf34
  v24 := Tryz.zeroValue34
  t26 := Tryz.underlying3
  a26 := Tryz.isAgg3
  z26 := Tryz.sizeOf3
  v26 := Tryz.zeroValue3
  t28 := Tryz.underlying127
  a28 := Tryz.isAgg127
  z28 := Tryz.sizeOf127
  v28 := Tryz.zeroValue127
  i26 := by kernel_rfl }
def Tryz.sortP_ren : Go.Shelf.Ren := ⟨fun | 5 => 134 | 8 => 149 | 7 => 148 | 19 => 161 | 20 => 162 | 10 => 152 | 11 => 153 | 12 => 154 | 13 => 155 | 14 => 156 | 15 => 157 | 16 => 158 | 17 => 159 | 18 => 160 | 30 => 171 | 31 => 172 | 32 => 173 | 33 => 174 | 34 => 175 | 35 => 151 | 40 => 179 | n => n, fun | 23 => 34 | 25 => 3 | 3 => 3 | 32 => 101 | 22 => 34 | 0 => 0 | 44 => 174 | 46 => 72 | 4 => 4 | 36 => 204 | 35 => 203 | 41 => 198 | 5 => 5 | 9 => 9 | 53 => 214 | 57 => 218 | 63 => 222 | 64 => 43 | n => n, fun | n => n⟩
theorem Tryz.sortP : Go.Proofs.SlLaysM.n5 Tryz.prog Tryz.sortP_ren := {
  mixed := by kernel_rfl
  f5 := ⟨Tryz.f134.name, by decide, Tryz.func134.trans (congrArg some (by kernel_rfl))⟩
  f7 := ⟨Tryz.f148.name, by decide, Tryz.func148.trans (congrArg some (by kernel_rfl))⟩
  f8 := Tryz.func149.trans (congrArg some (by kernel_rfl))
  f10 := ⟨Tryz.f152.name, by decide, Tryz.func152.trans (congrArg some (by kernel_rfl))⟩
  f11 := ⟨Tryz.f153.name, by decide, Tryz.func153.trans (congrArg some (by kernel_rfl))⟩
  f12 := ⟨Tryz.f154.name, by decide, Tryz.func154.trans (congrArg some (by kernel_rfl))⟩
  f13 := ⟨Tryz.f155.name, by decide, Tryz.func155.trans (congrArg some (by kernel_rfl))⟩
  f14 := ⟨Tryz.f156.name, by decide, Tryz.func156.trans (congrArg some (by kernel_rfl))⟩
  f15 := ⟨Tryz.f157.name, by decide, Tryz.func157.trans (congrArg some (by kernel_rfl))⟩
  f16 := ⟨Tryz.f158.name, by decide, Tryz.func158.trans (congrArg some (by kernel_rfl))⟩
  f17 := ⟨Tryz.f159.name, by decide, Tryz.func159.trans (congrArg some (by kernel_rfl))⟩
  f18 := ⟨Tryz.f160.name, by decide, Tryz.func160.trans (congrArg some (by kernel_rfl))⟩
  f19 := Tryz.func161.trans (congrArg some (by kernel_rfl))
  f20 := Tryz.func162.trans (congrArg some (by kernel_rfl))
  f30 := ⟨Tryz.f171.name, by decide, Tryz.func171.trans (congrArg some (by kernel_rfl))⟩
  f31 := Tryz.func172.trans (congrArg some (by kernel_rfl))
  f32 := Tryz.func173.trans (congrArg some (by kernel_rfl))
  f33 := ⟨Tryz.f174.name, by decide, Tryz.func174.trans (congrArg some (by kernel_rfl))⟩
  f34 := ⟨Tryz.f175.name, by decide, Tryz.func175.trans (congrArg some (by kernel_rfl))⟩
  f35 := ⟨Tryz.f151.name, by decide, Tryz.func151.trans (congrArg some (by kernel_rfl))⟩
  f40 := ⟨Tryz.f179.name, by decide, Tryz.func179.trans (congrArg some (by kernel_rfl))⟩
  t0 := Tryz.underlying0
  a0 := Tryz.isAgg0
  z0 := Tryz.sizeOf0
  v0 := Tryz.zeroValue0
  t3 := Tryz.underlying3
  a3 := Tryz.isAgg3
  z3 := Tryz.sizeOf3
  v3 := Tryz.zeroValue3
  t4 := Tryz.underlying4
  a4 := Tryz.isAgg4
  z4 := Tryz.sizeOf4
  v4 := Tryz.zeroValue4
  t5 := Tryz.underlying5
  a5 := Tryz.isAgg5
  z5 := Tryz.sizeOf5
  v5 := Tryz.zeroValue5
  t9 := Tryz.underlying9
  a9 := Tryz.isAgg9
  z9 := Tryz.sizeOf9
  v9 := Tryz.zeroValue9
  t22 := Tryz.underlying34
  a22 := Tryz.isAgg34
  z22 := Tryz.sizeOf34
  v22 := Tryz.zeroValue34
  t23 := Tryz.underlying34
  a23 := Tryz.isAgg34
  z23 := Tryz.sizeOf34
  v23 := Tryz.zeroValue34
  t25 := Tryz.underlying3
  a25 := Tryz.isAgg3
  z25 := Tryz.sizeOf3
  v25 := Tryz.zeroValue3
  t32 := Tryz.underlying101
  a32 := Tryz.isAgg101
  z32 := Tryz.sizeOf101
  v32 := Tryz.zeroValue101
  t35 := Tryz.underlying203
  a35 := Tryz.isAgg203
  z35 := Tryz.sizeOf203
  v35 := Tryz.zeroValue203
  t36 := Tryz.underlying204
  a36 := Tryz.isAgg204
  z36 := Tryz.sizeOf204
  v36 := Tryz.zeroValue204
  t41 := Tryz.underlying198
  a41 := Tryz.isAgg198
  z41 := Tryz.sizeOf198
  v41 := Tryz.zeroValue198
  t44 := Tryz.underlying174
  a44 := Tryz.isAgg174
  z44 := Tryz.sizeOf174
  v44 := Tryz.zeroValue174
  t46 := Tryz.underlying72
  a46 := Tryz.isAgg72
  z46 := Tryz.sizeOf72
  v46 := Tryz.zeroValue72
  t53 := Tryz.underlying214
  a53 := Tryz.isAgg214
  z53 := Tryz.sizeOf214
  v53 := Tryz.zeroValue214
  t57 := Tryz.underlying218
  a57 := Tryz.isAgg218
  z57 := Tryz.sizeOf218
  v57 := Tryz.zeroValue218
  t63 := Tryz.underlying222
  a63 := Tryz.isAgg222
  z63 := Tryz.sizeOf222
  v63 := Tryz.zeroValue222
  t64 := Tryz.underlying43
  a64 := Tryz.isAgg43
  z64 := Tryz.sizeOf43
  v64 := Tryz.zeroValue43 }
end Go.Proofs

namespace Go.Proofs.YtdmnemgooagehaaGreatDoor
open Go.RowKit Go.Maps Go.Sort Go.Shelf

theorem sorts76 (m : Nat) : AnyZI.SortsIn Tryz.prog Tryz.sortedP_ren Fence.wide m :=
  ⟨fun blk off cap ss W hH hblk hsz => callsIn_wide.2 (AnyM.slices_Sort_int Tryz.sortP blk off cap ss W hH hblk hsz),
   fun p cap W => callsIn_wide.2 (AnyM.slices_Sort_int_none Tryz.sortP p cap W)⟩

theorem slabs_nil (w : World) : Calls Tryz.prog 15 #[.pointer none] w fun e w' => e = .returned (.slice none 0 0) ∧ w' = w := by
  go_enter Tryz.func15, Tryz.ntmps15
  go_wp2
  go_ret
  exact ⟨rfl, rfl⟩
set_option maxRecDepth 100000 in
set_option maxHeartbeats 1000000 in
theorem slabs_raw (c b nn : Nat) (D0 : DataW Unit) (w : World) (hc2 : w.cell? ⟨c, 2, none⟩ = some (.map (some b))) (hown : Pmap w b nn D0) (hmax : Maps.size D0 ≤ maxLen) (hbytes : Maps.size D0 * 8 ≤ 140737488355328) :
    Calls Tryz.prog 15 #[.pointer (some ⟨c, 0, none⟩)] w fun e w' => ∃ (v : Value) (ss : List Int), e = .returned v ∧ ss.Perm (intKeys D0) ∧
      w'.ownsRow w.heap.size 3 1 v ss.length ((ss.mergeSort (fun x y => decide (x ≤ y))).map encZ) ∧ (v = .slice none 0 0 ↔ ss = []) ∧ Below w.heap.size w w' := by
  refine (callsIn_wide (n := 6)).1 ?_
  have hbl := hown.lt
  have hseq : SeqGives Fence.wide 2 Tryz.prog 135 #[.pointer (some ⟨w.heap.size, 0, none⟩)] encZ (fun ss => ss.Perm (intKeys D0)) (Maps.size D0) (w.alloc (.cells #[.map (some b)] 109)) :=
    AnyZI.keys_gives (ρ := Tryz.keysP_ren) { Tryz.keysP with } Fence.wide _ trivial rfl (by omega) w.heap.size b nn D0 _ (by simp) (by simp) (by
      obtain ⟨es, clock, hb, Ft, hs, hD⟩ := hown
      exact ⟨es, clock, (Below.heap_alloc _ _ b hbl).trans hb, Ft, hs, hD⟩)
  have cK : ∀ mb W, CallsIn Fence.wide 5 Tryz.prog 80 #[.map mb] W fun e w' => e = .returned (.func (.func 135) #[] #[.pointer (some ⟨W.heap.size, 0, none⟩)]) ∧ w' = W.alloc (.cells #[.map mb] 109) := fun mb W => AnyZI.keys_in Tryz.keysP Fence.wide 5 trivial rfl mb W
  have cS := AnyZI.sorted_in Tryz.sortedP Fence.wide 5 trivial trivial trivial trivial rfl (by omega) (sorts76 _) (enters_of Tryz.func134 (by kernel_rfl) rfl) 135 #[.pointer (some ⟨w.heap.size, 0, none⟩)] trivial (enters_of Tryz.func135 (by kernel_rfl) rfl) _ _ hmax hbytes _ hseq
  change CallsIn _ _ Tryz.prog 79 _ _ _ at cS
  have hfK : Fence.wide.fn 80 := trivial
  have hfS : Fence.wide.fn 79 := trivial
  clear hseq
  refine callsIn_of_wp Tryz.func15 rfl trivial ?_ rfl
  simp only [Tryz.ntmps15, List.size_toArray, List.length_cons, List.length_nil, Nat.reduceAdd, Nat.reduceSub, Array.replicate_succ, Array.replicate_zero, List.push_toArray, List.append_toArray, List.nil_append, List.cons_append]
  gi_wp2_with (first
    | (gi_at_call 80; refine (cK _ _).mono ?_; rintro e w' ⟨rfl, rfl⟩)
    | (gi_at_call 79; refine cS.mono ?_; rintro e w' ⟨v, ss, rfl, hS, hrow, hnil, hb⟩))
  go_ret
  exact ⟨v, ss, rfl, hS, ownsRow_base_a hrow (by simp), hnil, ((Below.refl _ w).alloc (Nat.le_refl _) _).trans (hb.mono (by simp))⟩

/-- Numbers as a slice's cells. -/
def nums (l : List Nat) : List Value := l.map fun x : Nat => Value.int .i64 (x : Int)
/-- A slice of numbers, in a block beyond base. -/
def Ints (w : World) (base : Nat) (a : Option Addr) (l : List Nat) : Prop := l = [] ∨ ∃ g cur, a = some ⟨g, 0, none⟩ ∧ base ≤ g ∧ w.heap[g]? = some (.cells cur 3) ∧ ∀ j (h : j < l.length), cur[j]? = some (.int .i64 (l[j] : Int))
theorem Ints.cell {w : World} {base : Nat} {a : Option Addr} {l : List Nat} (h : Ints w base a l) {j x : Nat} (hj : l[j]? = some x) : ∃ g, a = some ⟨g, 0, none⟩ ∧ base ≤ g ∧ g < w.heap.size ∧ w.cell? ⟨g, j, none⟩ = some (.int .i64 (x : Int)) := by
  obtain ⟨hl, rfl⟩ := List.getElem?_eq_some_iff.1 hj
  rcases h with rfl | ⟨g, cur, rfl, hb, hg, hc⟩
  · cases hl
  · exact ⟨g, rfl, hb, lt_of hg, by rw [cell_of_row w g j _ _ _ hg, hc j hl]⟩
theorem Ints.other {w w' : World} {base : Nat} {a : Option Addr} {l : List Nat} (h : Ints w base a l) (ho : ∀ g, a = some ⟨g, 0, none⟩ → base ≤ g → g < w.heap.size → w'.heap[g]? = w.heap[g]?) : Ints w' base a l := by
  rcases h with rfl | ⟨g, cur, rfl, hb, hg, hc⟩
  · exact .inl rfl
  · exact .inr ⟨g, cur, rfl, hb, (ho g rfl hb (lt_of hg)).trans hg, hc⟩
theorem Ints.below {w w' : World} {base : Nat} {a : Option Addr} {l : List Nat} (h : Ints w base a l) (hb : Below w.heap.size w w') : Ints w' base a l := h.other fun g _ _ hg => hb.block g hg
theorem ints_of {w : World} {base : Nat} {v : Value} {l : List Nat} (h : w.ownsRow base 3 1 v l.length (nums l)) : ∃ a cap, v = .slice a l.length cap ∧ Ints w base a l := by
  rcases h.2 with ⟨rfl, h0⟩ | ⟨g, cap, cur, rfl, hbase, hb, h1, h2, h3, h4⟩
  · obtain rfl := List.eq_nil_of_length_eq_zero h0
    exact ⟨none, 0, rfl, .inl rfl⟩
  · refine ⟨some ⟨g, 0, none⟩, cap, rfl, .inr ⟨g, cur, rfl, hbase, hb, fun j hj => ?_⟩⟩
    have e1 : cur[j]? = (nums l)[j]? := by rw [← h4, List.getElem?_take_of_lt (by omega), Array.getElem?_toList]
    rw [e1]; simp [nums, hj]

theorem Says.keys {w : World} {mb nm : Nat} {D : DataW Unit} {S : Nat → Prop} {sb : Nat → Nat} (h : Says D S sb) (hm : Pmap w mb nm D) {l : List Nat} (hup : l.Pairwise (· < ·)) (hl : ∀ x, x ∈ l ↔ ∃ q, S q ∧ x = q * 1024) : (l.map fun x : Nat => (x : Int)).Perm (intKeys D) := by
  refine CollectedI.perm (left := fun _ => false) ⟨?_, fun x => ?_⟩ hm law3 Tryz.underlying3 (fun _ => rfl)
  · rw [List.nodup_iff_pairwise_ne, List.pairwise_map]
    exact hup.imp (fun h => by omega)
  · rw [h.key, List.mem_map]
    constructor
    · rintro ⟨y, hy, rfl⟩
      obtain ⟨q, hq, rfl⟩ := (hl y).1 hy
      exact ⟨⟨q, hq, rfl⟩, rfl⟩
    · rintro ⟨⟨q, hq, rfl⟩, _⟩
      exact ⟨q * 1024, (hl _).2 ⟨q, hq, rfl⟩, rfl⟩

def SlabsPost (w : World) (l : List Nat) (e : Ending) (w' : World) : Prop := ∃ v, e = .returned v ∧ w'.ownsRow w.heap.size 3 1 v l.length (nums l) ∧ Below w.heap.size w w'
theorem slabs_any {w : World} {Z : Nat → Prop} {c p sz m ct : Nat} {U : Pls} {B : St} {N : Nat} (h : Sl w Z c p sz m ct U) (hF : Fit B U m N) (hct : ct ≤ 1000000) : Calls Tryz.prog 15 #[.pointer (some ⟨c, 0, none⟩)] w (SlabsPost w (slabsOf U m N)) := by
  obtain ⟨mb, nm, D, a, cap, nn, L, sb, bm, gm, ws, hC, hZ, hnm⟩ := h
  have hsz := hC.map.size_le
  refine (slabs_raw c mb nm D w hC.c2 hC.map (by unfold maxLen; omega) (by omega)).mono ?_
  rintro e w' ⟨v, ss, rfl, hp, hrow, _, hb⟩
  have hk := hC.says.keys hC.map (slabsOf_up U m N) (fun x => by
    rw [slabsOf_mem]
    exact ⟨fun ⟨q, _, hs, e⟩ => ⟨q, hs, e⟩, fun ⟨q, hs, e⟩ => ⟨q, (hF.page q hs).2, hs, e⟩⟩)
  have hs := mergeSort_of_perm_i (hp.trans hk.symm)
  have hid_ : ((slabsOf U m N).map fun x : Nat => (x : Int)).mergeSort leI = (slabsOf U m N).map fun x : Nat => (x : Int) := by
    refine List.mergeSort_of_pairwise ?_
    rw [List.pairwise_map]
    exact (slabsOf_up U m N).imp (fun h => by simp only [leI, decide_eq_true_eq]; omega)
  have hlen : ss.length = (slabsOf U m N).length := by rw [(hp.trans hk.symm).length_eq, List.length_map]
  refine ⟨v, rfl, ?_, hb⟩
  have e2 : (ss.mergeSort (fun x y => decide (x ≤ y))).map encZ = nums (slabsOf U m N) := by
    show (ss.mergeSort leI).map encZ = _
    rw [hs, hid_, List.map_map]
    rfl
  rw [e2, hlen] at hrow
  exact hrow
end Go.Proofs.YtdmnemgooagehaaGreatDoor

namespace Go.Proofs.YtdmnemgooagehaaGreatDoor
open Go.RowKit Go.Maps Go.Shelf
attribute [local go_sem] Oper.semAt_some

theorem ones_skip {f : Nat → Bool} {a b : Nat} (hab : a ≤ b) (h : ∀ j, a ≤ j → j < b → f j = false) : ones f b = ones f a := by
  refine up_ext (ones_up f b) (ones_up f a) (fun x => ?_)
  rw [ones_mem, ones_mem]
  constructor
  · rintro ⟨h1, h2⟩
    refine ⟨?_, h2⟩
    by_cases e : x < a
    · exact e
    · rw [h x (by omega) h1] at h2; cases h2
  · rintro ⟨h1, h2⟩
    exact ⟨by omega, h2⟩
theorem ones_next {f : Nat → Bool} {k : Nat} (h : f k = true) : ones f (k + 1) = ones f k ++ [k] := by
  unfold ones
  rw [List.range_succ, List.filter_append]
  simp [h]

/-- What a round keeps: all below n₀, and the box. -/
def Kp (n₀ Bn : Nat) (A B : World) : Prop := Below n₀ A B ∧ B.heap[Bn]? = A.heap[Bn]?
theorem Kp.trans {n₀ Bn : Nat} {A B C : World} (h : Kp n₀ Bn A B) (k : Kp n₀ Bn B C) : Kp n₀ Bn A C := ⟨h.1.trans k.1, k.2.trans h.2⟩

/-- What the iterator reads. -/
structure Rds (W : World) (n₀ Bn s b g m : Nat) (ws : List Nat) : Prop where
  box : W.cell? ⟨Bn, 0, none⟩ = some (.pointer (some ⟨s, 0, none⟩))
  map : W.cell? ⟨s, 0, none⟩ = some (.pointer (some ⟨b, 0, none⟩))
  bits : Bits W b g m ws
  tab : Tab W
  lt : s < n₀ ∧ b < n₀ ∧ g < n₀ ∧ 2 < n₀
theorem Rds.keep {A B : World} {n₀ Bn s b g m : Nat} {ws : List Nat} (h : Rds A n₀ Bn s b g m ws) (hk : Kp n₀ Bn A B) : Rds B n₀ Bn s b g m ws :=
  ⟨(World.cell?_of_block hk.2).trans h.box, (hk.1.cell (p := ⟨s, 0, none⟩) h.lt.1).trans h.map, h.bits.blocks (hk.1.block b h.lt.2.1) (hk.1.block g h.lt.2.2.1), h.tab.below hk.1 h.lt.2.2.2, h.lt⟩

def toGo (m : Nat) (v : Value) : Nat := match v with | .int _ r => if r < 0 then 0 else m - r.toNat | _ => 0
theorem toGo_nat (m k : Nat) : toGo m (.int .i64 (k : Int)) = m - k := by
  show (if (k : Int) < 0 then 0 else m - (k : Int).toNat) = m - k
  rw [if_neg (by omega), Int.toNat_natCast]

set_option maxRecDepth 100000 in
set_option maxHeartbeats 1000000 in
theorem used1_in (n : Nat) (hn : 1 ≤ n) (l Bn n₀ s b g m : Nat) (ws : List Nat) (hm : m ≤ 1000) (J Jx : List (Fin 1024) → World → Prop)
    (hY : ∀ pre x W, J pre W → pre.length < m → YieldAt Fence.wide (n - 1) Tryz.prog l #[.int .i64 ((x : Fin 1024).val : Int)] W fun e W' =>
      (e = .returned (.bool true) ∧ J (pre ++ [x]) W' ∧ Kp n₀ Bn W W') ∨ (e = .returned (.bool false) ∧ Jx (pre ++ [x]) W'))
    (W : World) (hR : Rds W n₀ Bn s b g m ws) (h0 : J [] W) :
    CallsIn Fence.wide n Tryz.prog 132 #[.func (.yield l) #[] #[], .pointer (some ⟨Bn, 0, none⟩)] W fun e W' => (∃ v, e = .returned v) ∧
      ((∃ ys : List (Fin 1024), ys.map Fin.val = ones (bit ws) m ∧ J ys W') ∨ (∃ pre, True ∧ Jx pre W')) := by
  have hc1 := hR.box
  have hc2 := hR.map
  have HR := hid hR
  clear hR
  have hf40 : Fence.wide.fn 70 := trivial
  refine callsIn_of_wp Tryz.func132 rfl trivial ?_ rfl
  simp only [Tryz.ntmps132, List.size_toArray, List.length_cons, List.length_nil, Nat.reduceAdd, Nat.reduceSub, Array.replicate_succ, Array.replicate_zero, List.push_toArray, List.append_toArray, List.nil_append, List.cons_append]
  gi_wp2_with (gi_at_call 70; refine (callsIn_wide.2 (first_any b g m ws true 0 W HR.out.bits HR.out.tab (by omega))).mono ?_; rintro e w' ⟨r, rfl, hr, ex⟩; rw [ex]; clear ex; have HF := hid hr; clear hr)
  gi_loopw [3] (fun v wr => ∃ (pre : List (Fin 1024)) (fr : Nat) (r : Int), v = .int .i64 r ∧ Hid (pre.map Fin.val = ones (bit ws) fr) ∧ Hid (FirstSo true ws fr m r) ∧ Hid (fr ≤ m) ∧ Hid (Rds wr n₀ Bn s b g m ws) ∧ J pre wr)
    (fun v _ => toGo m v)
  case atStart => exact ⟨[], 0, r, rfl, rfl, HF, Nat.zero_le _, HR, h0⟩
  case round =>
    clear HF HR hc1 hc2 h0
    obtain ⟨pre, fr, r, rfl, hpre, hF, hfr, HR, hJ⟩ := hrel
    rcases hF.out with ⟨rfl, hno⟩ | ⟨k, rfl, hk1, hk2, hkb, hlow⟩
    · have HN := hid hno
      clear hno
      gi_wp2
      go_end0
      refine ⟨⟨_, rfl⟩, .inl ⟨pre, ?_, hJ⟩⟩
      rw [hpre.out]
      refine (ones_skip hfr.out (fun j h1 h2 => ?_)).symm
      cases e : bit ws j
      · rfl
      · exact absurd e (HN.out j h1 h2)
    · have hlen : pre.length < m := by
        have e1 := congrArg List.length hpre.out
        rw [List.length_map, ones_len] at e1
        have := cnt_le (bit ws) fr
        omega
      obtain ⟨fn, tmps, assign, body, hy, hRr⟩ := hY pre ⟨k, by omega⟩ wr hJ hlen
      have HK := hid (And.intro hk1 (And.intro hkb hlow))
      have hk0 : decide ((0 : Int) ≤ (k : Int)) = true := by simp
      clear hk1 hkb hlow hlen
      dsimp only at hy hRr
      gi_wp2
      refine hRr.mono ?_
      rintro e W3 (⟨rfl, hJ3, hk3⟩ | ⟨rfl, hJx3⟩)
      · have hR3 := HR.out.keep hk3
        have hc13 := hR3.box
        have hc23 := hR3.map
        have HR3 := hid hR3
        clear hR3 hk3 hJ HR
        have hF3 := first_any b g m ws true (k + 1) W3 HR3.out.bits HR3.out.tab (by omega)
        have HF3 := hid hF3
        clear hF3
        gi_wp2_with (gi_at_call 70; refine (callsIn_wide.2 HF3.out).mono ?_; rintro e w' ⟨r, rfl, hr, ex⟩; rw [ex]; clear ex; have HF := hid hr; clear hr)
        go_roundw
        case rel =>
          refine ⟨pre ++ [⟨k, by omega⟩], k + 1, r, rfl, ?_, HF, ?_, HR3, hJ3⟩
          · show _ = _
            rw [List.map_append, hpre.out, ones_next HK.out.2.1, ones_skip HK.out.1 (fun j h1 h2 => ?_)]
            · rfl
            · cases e : bit ws j
              · rfl
              · exact absurd e (HK.out.2.2 j h1 h2)
          · show k + 1 ≤ m
            omega
        case measure =>
          rcases HF.out with ⟨rfl, _⟩ | ⟨k', rfl, hk', hk'2, _⟩
          · show toGo m (.int .i64 (-1)) < toGo m (.int .i64 (k : Int))
            rw [toGo_nat]
            show 0 < m - k
            omega
          · show toGo m (.int .i64 (k' : Int)) < toGo m (.int .i64 (k : Int))
            rw [toGo_nat, toGo_nat]
            omega
      · gi_wp2
        refine bodyPost_ret (results_none rfl _ _ _) rfl ?_
        exact ⟨⟨_, rfl⟩, .inr ⟨_, trivial, hJx3⟩⟩

theorem used_in (s : Nat) (w : World) : Calls Tryz.prog 78 #[.pointer (some ⟨s, 0, none⟩)] w fun e w' => e = .returned (.func (.func 132) #[] #[.pointer (some ⟨w.heap.size, 0, none⟩)]) ∧ w' = w.alloc (.cells #[.pointer (some ⟨s, 0, none⟩)] 115) := by
  go_enter Tryz.func78, Tryz.ntmps78
  go_wp2
  go_ret
  exact ⟨rfl, rfl⟩

theorem used_stops (n : Nat) (hn : 1 ≤ n) (Bn n₀ s b g m : Nat) (ws : List Nat) (hm : m ≤ 1000) (w : World) (hBn : Bn < w.heap.size) (hn₀ : n₀ ≤ w.heap.size) (hR : Rds w n₀ Bn s b g m ws) :
    SeqStopsK Fence.wide n Tryz.prog 132 #[.pointer (some ⟨Bn, 0, none⟩)] (fun x : Fin 1024 => #[Value.int .i64 (x.val : Int)]) (Kp n₀ Bn) (fun ys => ys.map Fin.val = ones (bit ws) m) (fun _ => True) m w := fun l J Jx W hW _ _ hY h0 =>
  used1_in n hn l Bn n₀ s b g m ws hm J Jx hY W (hR.keep ⟨hW.mono hn₀, hW.block Bn hBn⟩) h0
end Go.Proofs.YtdmnemgooagehaaGreatDoor

namespace Go.Proofs.YtdmnemgooagehaaGreatDoor
open Go.RowKit Go.Maps Go.Shelf

theorem oper_inRound {P : Program} {o : Oper} {a : Act} {w : World} {K : Act → World → Prop} {Q : Exit → Act → World → Prop} (l n : Nat) (hd : ∀ c, o.op ≠ .defer c) (h : o.wp P a w K Q) : o.wpIn (Fence.wide.inRound l) n P a w K Q := by
  refine ⟨fun _ _ => trivial, ?_⟩
  have e : Oper.semAt (Fence.wide.inRound l).round a.eval o = execOp a.eval o := Oper.semAt_eq _ _ _ hd
  rw [e]
  unfold Oper.wp at h
  generalize (execOp a.eval o).run P w = r at h ⊢
  cases r with
  | ok x w' =>
    cases x with
    | value v => exact h
    | skip => exact h
    | defer d => exact h
    | enter f args => exact ⟨fun hx => by simp [Fence.inRound, Fence.wide] at hx, CallsIn.inRound l (callsIn_wide.2 h)⟩
    | row row args => exact ⟨fun hx => by simp [Fence.inRound, Fence.wide] at hx, fun c cs _ => by
        obtain ⟨v, w'', hr, hs⟩ := h c cs
        exact ⟨v, w'', hr, stepsIn_wide.2 hs⟩⟩
    | round => exact h.elim
    | _ => exact h.elim
  | halt hh w' =>
    cases hh with
    | panic v => exact h
    | _ => exact h.elim
theorem any_inRound {P : Program} {ops : Array Oper} {Q : Exit → Act → World → Prop} {md : Region.Mode} (l n : Nat) (hd : ∀ (i : Nat) (o : Oper), ops[i]? = some o → ∀ c, o.op ≠ Op.defer c) (hQ : ¬ LetsOut Q) : ∀ (fuel : Nat) (listed : Array Bool) (a : Act) (w : World), wpAny P md ops Q fuel listed a w → wpAnyIn (Fence.wide.inRound l) n P md ops Q fuel listed a w
  | 0, _, _, _, h => h
  | fuel + 1, _, a, w, h => ⟨h.1, fun i hi => by
      have h2 := h.2 i hi
      unfold wpOp at h2
      unfold wpOpIn
      cases ho : ops[i]? with
      | none =>
        rw [ho] at h2
        exact any_inRound l n hd hQ fuel _ a w h2
      | some o =>
        rw [ho] at h2
        simp only at h2 ⊢
        split
        · rename_i hw
          rw [if_pos hw] at h2
          rcases h2 with h2 | h2
          · have h3 := oper_inRound l n (hd i o ho) h2
            refine ⟨h3.1, ?_⟩
            have h4 := h3.2
            revert h4
            generalize (Oper.semAt (Fence.wide.inRound l).round a.eval o).run P w = r
            intro h4
            cases r with
            | ok x w' =>
              cases x with
              | value v => exact any_inRound l n hd hQ fuel _ _ _ h4
              | skip => exact any_inRound l n hd hQ fuel _ _ _ h4
              | defer d => exact any_inRound l n hd hQ fuel _ _ _ h4
              | enter f args => exact ⟨h4.1, h4.2.mono (fun e w'' h5 => by
                  cases e with
                  | returned v => exact any_inRound l n hd hQ fuel _ _ _ h5
                  | panicked c => exact h5
                  | outgrown => exact h5)⟩
              | row row args => exact ⟨h4.1, h4.2.mono (fun v w'' h5 => any_inRound l n hd hQ fuel _ _ _ h5)⟩
              | round l' f tm asg bd => exact ⟨h4.1, h4.2.mono (fun e w'' h5 => by
                  cases e with
                  | returned v => exact any_inRound l n hd hQ fuel _ _ _ h5
                  | panicked c => exact h5
                  | outgrown => exact h5)⟩
              | _ => exact h4
            | halt hh w' =>
              cases hh with
              | panic v => exact h4
              | _ => exact h4.elim
          · exact absurd h2.2 hQ
        · rename_i hw
          rw [if_neg hw] at h2
          exact ⟨fun _ _ => trivial, any_inRound l n hd hQ fuel _ _ _ h2⟩⟩
/-- A region that draws, inside a round: as outside. -/
theorem held_inRound {P : Program} {ops : Array Oper} {Q : Exit → Act → World → Prop} {S : World → Prop} {id l n : Nat} {a : Act} {w : World} (hm : P.follows .mixedOrders = true) (hd : ∀ (i : Nat) (o : Oper), ops[i]? = some o → ∀ c, o.op ≠ Op.defer c) (hQ : ¬ LetsOut Q) (hS : S w.drew)
    (h : S w.drew → wpAnyH P .any ops Q S ops.size (Array.replicate ops.size false) a w.drew) : (Code.region id ops true).wpIn (Fence.wide.inRound l) n P Q a w :=
  wpIn_region_any hm (any_inRound l n hd hQ _ _ _ _ (wpAny_of_held _ _ _ _ (h hS)))

/-- Marks of loops over functions. -/
def marks (Ds : List Nat) : List Deferred := Ds.map fun D => { target := .collected D, args := #[] }
theorem leaves_marks {F : Fence} {n : Nat} {P : Program} {fn : Func} {tmps : Array Value} {R : Ending → World → Prop} : ∀ (Ds : List Nat) (W : World) (I : World → Prop), I W → (∀ D, D ∈ Ds → W.heap[D]? = some (.deferred (some []))) → Ds.Nodup →
    (∀ W D, D ∈ Ds → I W → W.heap[D]? = some (.deferred (some [])) → I (W.putObj D (.deferred none))) → (∀ W, I W → LeavesInM F n P fn tmps R [] .returning W) → LeavesInM F n P fn tmps R (marks Ds) .returning W
  | [], W, I, hI, _, _, _, hend => hend W hI
  | D :: Ds, W, I, hI, hD, hn, hs, hend => by
    refine ⟨by simp, .inl ⟨D, _, rfl, run_takeDeferred (hD D (by simp)), ?_⟩⟩
    have hn2 := List.nodup_cons.1 hn
    refine leaves_marks Ds _ I (hs W D (by simp) hI (hD D (by simp))) (fun D' hD' => ?_) hn2.2 (fun W D' hD' => hs W D' (by simp [hD'])) hend
    have hne : D ≠ D' := fun e => hn2.1 (e ▸ hD')
    have h1 := hD D' (by simp [hD'])
    simp only [World.putObj]
    rw [Array.getElem?_setIfInBounds_ne hne]
    exact h1
end Go.Proofs.YtdmnemgooagehaaGreatDoor

namespace Go.Proofs.YtdmnemgooagehaaGreatDoor
open Go.RowKit Go.Maps Go.Shelf
attribute [local go_sem] Oper.semAt_some

theorem ones_congr {f g : Nat → Bool} {n : Nat} (h : ∀ i, i < n → f i = g i) : ones f n = ones g n := List.filter_congr (fun i hi => h i (List.mem_range.1 hi))
/-- What was collected of the first j slabs. -/
def Gt (U : Pls) (sz m N j : Nat) : List Nat := ((pagesOf U m N).take j).flatMap fun p => (ones (U p) m).map (place sz p)
theorem Gt_next {U : Pls} {sz m N j q : Nat} (h : (pagesOf U m N)[j]? = some q) : Gt U sz m N (j + 1) = Gt U sz m N j ++ (ones (U q) m).map (place sz q) := by
  obtain ⟨hj, rfl⟩ := List.getElem?_eq_some_iff.1 h
  unfold Gt
  rw [List.take_succ_eq_append_getElem hj, List.flatMap_append]
  simp
theorem Gt_all (U : Pls) (sz m N : Nat) : Gt U sz m N (pagesOf U m N).length = usedOf U sz m N := by
  unfold Gt usedOf
  rw [List.take_of_length_le (Nat.le_refl _)]
theorem pagesOf_len (U : Pls) (m N : Nat) : (pagesOf U m N).length ≤ N := by
  unfold pagesOf
  rw [ones_len]
  exact cnt_le _ _
theorem Gt_len (U : Pls) (sz m N : Nat) : ∀ j, (Gt U sz m N j).length ≤ j * m
  | 0 => by simp [Gt]
  | j + 1 => by
    have ih := Gt_len U sz m N j
    cases h : (pagesOf U m N)[j]? with
    | none =>
      have hl : (pagesOf U m N).length ≤ j := by simpa using h
      have e : Gt U sz m N (j + 1) = Gt U sz m N j := by
        unfold Gt
        rw [List.take_of_length_le (by omega), List.take_of_length_le hl]
      rw [e, Nat.add_mul]; omega
    | some q =>
      rw [Gt_next h, List.length_append, List.length_map, ones_len, Nat.add_mul]
      have := cnt_le (U q) m
      omega
theorem slabs_get {U : Pls} {m N j q : Nat} (h : (pagesOf U m N)[j]? = some q) : (slabsOf U m N)[j]? = some (q * 1024) := by
  unfold slabsOf
  rw [List.getElem?_map, h]
  rfl

def nodef (o : Oper) : Bool := match o.op with | .defer _ => false | _ => true
theorem nodef_of {ops : Array Oper} (h : ops.toList.all nodef = true) : ∀ (i : Nat) (o : Oper), ops[i]? = some o → ∀ c, o.op ≠ Op.defer c := fun i o ho c e => by
  have hm : o ∈ ops.toList := by rw [Array.mem_toList_iff]; exact Array.mem_of_getElem? ho
  have := List.all_eq_true.1 h o hm
  unfold nodef at this
  rw [e] at this
  cases this

/-- An append whose run is known, at a step of a region that draws. -/
theorem step_append_run {P : Program} (w w' : World) (v' : Value) {ops : Array Oper} {o : Oper} {a : Act} {K : Act → World → Prop} {Q : Exit → Act → World → Prop} {E : Prop} (hgd : o.guard = none) (s x : Operand) (t : TypeId)
    (ho : o.op = .call { callee := .builtin .append, args := #[s, x], argTypes := #[t, t] }) (v y : Value) (hs : a.eval s = v) (hx : a.eval x = y) (hr : (Builtin.append_ #[t, t] o.type #[v, y]).run P w = .ok v' w') (h : K (a.put o.dst v') w') :
    if Region.wanted o (yielded ops a.tmps) = true then Oper.wp P o a w K Q else E := by
  have hw : Region.wanted o (yielded ops a.tmps) = true := by simp [Region.wanted, hgd]
  rw [if_pos hw]
  unfold Oper.wp
  simp [execOp, ho, resolve, invoke, builtin, hs, hx, hr, Result.andThen]
  exact h

/-- The marks that stand. -/
def Mk (Ds : List Nat) (n1 : Nat) (W : World) : Prop := Ds.Nodup ∧ ∀ D, D ∈ Ds → n1 ≤ D ∧ W.heap[D]? = some (.deferred (some []))
/-- What is collected, beside a block ba that isn't its own. -/
def Col (w1 : World) (bl ba : Nat) (y : Int) (Ds : List Nat) (l : List Nat) (W : World) : Prop :=
  Turn (fun x => x = bl) w1 W ∧ Mk Ds w1.heap.size W ∧ ba + 1 < W.heap.size ∧ Boxed W ba 3 (.int .i64 y) ∧ ∃ v, Boxed W bl 34 v ∧ W.ownsRow w1.heap.size 3 1 v l.length (nums l) ∧ ∀ x, v.ownBlock = some x → x ≠ ba ∧ x ≠ ba + 1
theorem infoI : (Tryz.prog.info? 3).map (fun i => (i.zero, i.size, i.bytes)) = some (some (.int .i64 0), 1, 8) := by kernel_rfl
theorem turn_ownFrom {β : Type} (w1 : World) (bl B : Nat) (hB : w1.heap.size ≤ B) : OwnFrom (β := β) B (fun _ W => Turn (fun x => x = bl) w1 W) := fun _ _ _ row hs hg hr =>
  hs.next (Turn.of_grown (S := fun x => row = some x) hg (fun _ e => .inl e)) (fun x e => .inr (Nat.le_trans hB (hr x e).1))
theorem mk_ownFrom {β : Type} (Ds : List Nat) (n1 B : Nat) (hB : ∀ D, D ∈ Ds → D < B) : OwnFrom (β := β) B (fun _ W => Mk Ds n1 W) := fun _ _ _ _ hs hg hr =>
  ⟨hs.1, fun D hD => ⟨(hs.2 D hD).1, (hg.block D (Array.getElem?_eq_some_iff.1 (hs.2 D hD).2).1 (fun e => by have := (hr D e.symm).1; have := hB D hD; omega)).trans (hs.2 D hD).2⟩⟩
theorem col_ownFrom (w1 : World) (bl ba : Nat) (y : Int) (Ds : List Nat) (f : List (Fin 1024) → List Nat) (B : Nat) (hB : w1.heap.size ≤ B) (hD : ∀ D, D ∈ Ds → D < B) : OwnFrom B (fun pre W => Col w1 bl ba y Ds (f pre) W) :=
  OwnFrom.and (turn_ownFrom w1 bl B hB) (OwnFrom.and (mk_ownFrom Ds w1.heap.size B hD) (OwnFrom.and (fun _ _ _ _ hs hg _ => Nat.lt_of_lt_of_le hs hg.size) (OwnFrom.and (fun _ W _ _ hs hg hr => hs.kept hg (fun e => by
    obtain ⟨_, o, ho, hc⟩ := hr ba e.symm
    rw [show W.heap[ba]? = _ from hs] at ho
    cases ho
    cases hc)) (Own.from (holdsRow_own w1.heap.size bl 34 3 1 (fun pre => (f pre).length) (fun pre => nums (f pre)) (fun _ v => ∀ x, v.ownBlock = some x → x ≠ ba ∧ x ≠ ba + 1)) B))))

set_option maxRecDepth 100000 in
set_option maxHeartbeats 2000000 in
theorem sused_any {w : World} {Z : Nat → Prop} {c p sz m ct : Nat} {U : Pls} {B : St} {N : Nat} (h : Sl w Z c p sz m ct U) (hF : Fit B U m N) (hT : Tab w) (hct : ct ≤ 1000000) (hN : N ≤ 1048576) (hz1 : 16 ≤ sz) (hz2 : sz ≤ 512) (hm : m = 960 / sz) :
    Calls Tryz.prog 14 #[.pointer (some ⟨c, 0, none⟩)] w (SlabsPost w (usedOf U sz m N)) := by
  have HH := hid (And.intro h (And.intro hF (And.intro hT hm)))
  clear h hF hT hm
  refine (callsIn_wide (n := 6)).1 ?_
  refine callsIn_of_wp_marks Tryz.func14 rfl trivial ?_ rfl
  refine wpIn_wide.2 ?_
  simp only [Tryz.ntmps14, List.size_toArray, List.length_cons, List.length_nil, Nat.reduceAdd, Nat.reduceSub, Array.replicate_succ, Array.replicate_zero, List.push_toArray, List.append_toArray, List.nil_append, List.cons_append]
  go_wp2_with fail
  have hb0 : Below w.heap.size w ((w.alloc (.cells #[.pointer (some ⟨c, 0, none⟩)] 26)).alloc (.cells #[.slice none 0 0] 34)) := ((Below.refl _ w).alloc (Nat.le_refl _) _).alloc (by simp) _
  refine (slabs_any (HH.out.1.below hb0) HH.out.2.1 hct).mono ?_
  rintro e w1 ⟨v1, rfl, hrow1, hb1⟩
  obtain ⟨a1, cap1, rfl, hI1⟩ := ints_of hrow1
  have hlen : (slabsOf U m N).length = (pagesOf U m N).length := by unfold slabsOf; rw [List.length_map]
  have hln : (pagesOf U m N).length ≤ 1048576 := Nat.le_trans (pagesOf_len U m N) hN
  rw [hlen]
  have H1 := hid (And.intro hrow1 (And.intro hb1 (And.intro hI1 hb0)))
  have hs1 := hb1.size
  simp only [World.size_alloc] at hs1
  clear hrow1 hb1 hI1 hb0 hlen
  obtain ⟨n, hn⟩ : ∃ n, n = (pagesOf U m N).length := ⟨_, rfl⟩
  rw [← hn]
  rw [← hn] at hln
  have HN := hid hn
  clear hn
  go_wp2_with fail
  refine wp_loop (fun a W => ∃ (j : Nat) (Ds : List Nat) (v : Value) (u5 u6 u11 u12 u13 u14 u15 u16 u17 u18 u19 u20 u21 u22 u23 u24 u25 u26 u27 u28 u29 : Value),
      a = { tmps := #[.pointer (some ⟨c, 0, none⟩), .pointer (some ⟨w.heap.size, 0, none⟩), .slice none 0 0, .pointer (some ⟨w.heap.size + 1, 0, none⟩), undef, u5, u6, .pointer (some ⟨c, 0, none⟩), .slice a1 n cap1, .int .i64 (n : Int), .int .i64 (j : Int), u11, u12, u13, u14, u15, u16, u17, u18, u19, u20, u21, u22, u23, u24, u25, u26, u27, u28, u29, undef], defers := marks Ds } ∧ j ≤ n ∧
      Turn (fun x => x = w.heap.size + 1) w1 W ∧ Mk Ds w1.heap.size W ∧ Boxed W (w.heap.size + 1) 34 v ∧ W.ownsRow w1.heap.size 3 1 v (Gt U sz m N j).length (nums (Gt U sz m N j)))
    (fun a _ => n - (intOf (a.tmps.getD 10 undef)).toNat) ?_ ?_
  · have hbx : Boxed w1 (w.heap.size + 1) 34 (.slice none 0 0) := by
      have e := H1.out.2.1.block (w.heap.size + 1) (by simp)
      refine e.trans ?_
      have := heap_alloc_new (w.alloc (.cells #[.pointer (some ⟨c, 0, none⟩)] 26)) (.cells #[.slice none 0 0] 34)
      simpa using this
    exact ⟨0, [], .slice none 0 0, undef, undef, undef, undef, undef, undef, undef, undef, undef, undef, undef, undef, undef, undef, undef, undef, undef, undef, undef, undef, undef, rfl, Nat.zero_le _, Turn.refl _ _, ⟨List.nodup_nil, by simp⟩, hbx, World.ownsRow_nil _ _ _ _⟩
  · rintro a W ⟨j, Ds, v, u5, u6, u11, u12, u13, u14, u15, u16, u17, u18, u19, u20, u21, u22, u23, u24, u25, u26, u27, u28, u29, rfl, hj, ht, hmk, hbx, hrow⟩
    have HO := hid (And.intro ht (And.intro hmk (And.intro hbx hrow)))
    have hcl := hbx.cell
    clear ht hmk hbx hrow
    by_cases hjn : j = n
    · subst hjn
      go_wp2_with fail
      obtain ⟨ht, hmk, hbx, hrow⟩ := HO.out
      obtain ⟨hrow1, hb1, hI1, hb0⟩ := H1.out
      have hb01 : Below w.heap.size w w1 := hb0.trans (hb1.mono (by simp; omega))
      have hbW : Below w.heap.size w W := Below.of_turn hb01 (by omega) ht (fun k e => by omega)
      refine leaves_marks Ds W (fun W' => Below w.heap.size w W' ∧ W'.ownsRow w1.heap.size 3 1 v (Gt U sz m N j).length (nums (Gt U sz m N j))) ⟨hbW, hrow⟩ (fun D hD => (hmk.2 D hD).2) hmk.1 (fun W' D hD hI hK => ⟨hI.1.trans (belowK_b (w := w) (Nat.le_refl _) W' D _ _ (by have := (hmk.2 D hD).1; omega) hK rfl rfl), ownsRow_putObj hI.2 _ hK rfl⟩) (fun W' hI => ?_)
      refine ⟨_, results_tmp rfl _ _ _, v, rfl, ?_, hI.1⟩
      have e : Gt U sz m N j = usedOf U sz m N := by rw [HN.out]; exact Gt_all U sz m N
      have := hI.2
      rw [e] at this
      exact ownsRow_base_a this (by omega)
    · have hjl : j < n := by omega
      clear hj hjn
      obtain ⟨q, hq⟩ : ∃ q, (pagesOf U m N)[j]? = some q := ⟨_, List.getElem?_eq_getElem (by rw [← HN.out]; exact hjl)⟩
      have hqs : q < N ∧ Slb U m q := pagesOf_mem.1 (List.mem_of_getElem? hq)
      obtain ⟨g1, rfl, hg1, hg1l, hg1c⟩ := H1.out.2.2.1.cell (slabs_get hq)
      have ha1 : W.cell? ⟨g1, j, none⟩ = some (.int .i64 ((q * 1024 : Nat) : Int)) := by
        refine (World.cell?_of_block (HO.out.1.block g1 hg1l (fun e => ?_))).trans hg1c
        simp at hg1
        omega
      obtain ⟨y, hy⟩ : ∃ y, y = ((q * 1024 : Nat) : Int) := ⟨_, rfl⟩
      rw [← hy] at ha1
      have HQ := hid (And.intro hq (And.intro hqs hy))
      obtain ⟨mb, nm, D, a, cap, nn, L, sb, bm, gm, ws, hC, hZ, hnm⟩ := HH.out.1
      have hb01 : Below w.heap.size w w1 := H1.out.2.2.2.trans (H1.out.2.1.mono (by simp; omega))
      have hbW : Below w.heap.size w W := Below.of_turn hb01 (by omega) HO.out.1 (fun k e => by omega)
      have hyb : 0 ≤ y ∧ y < 1073741824 := by omega
      have hlook : ∀ wx : World, Below w.heap.size w wx → (Instr.lookup 109 (.map (some mb)) (.int .i64 y) false).run Tryz.prog wx = .ok (.pointer (some ⟨sb q, 0, none⟩)) wx := fun wx hbx => by
        obtain ⟨v, ps, hrun, hv⟩ := (hC.below hbx).map.lookup law3 Tryz.underlying109 (zero82 wx) ptrElem_nil (keyOf_int_mk Tryz.underlying3 (wf_i64 (a := y) (by omega) (by omega)))
        have e := hC.says.val q hqs.2 .nil
        rw [show pag q = y from hy.symm] at e
        rw [e] at hv
        rcases ptrElem_inv hv with ⟨rfl, hd⟩ | ⟨s, rfl, hd⟩
        · cases hd
        · have e2 : s = sb q := by simp at hd; omega
          rw [← e2]; exact hrun
      have hbc : ∀ wx : World, Turn (fun x => x = w.heap.size + 1) w1 wx → wx.cell? ⟨w.heap.size, 0, none⟩ = some (.pointer (some ⟨c, 0, none⟩)) := fun wx htx => by
        have e1 := htx.block w.heap.size (by omega) (by omega)
        have e2 := H1.out.2.1.block w.heap.size (by simp; omega)
        have e3 : ((w.alloc (.cells #[.pointer (some ⟨c, 0, none⟩)] 26)).alloc (.cells #[.slice none 0 0] 34)).heap[w.heap.size]? = some (.cells #[.pointer (some ⟨c, 0, none⟩)] 26) := heap_alloc2_old w _ _
        rw [cell_of_row wx _ 0 _ _ _ (e1.trans (e2.trans e3))]; rfl
      have hcm : ∀ wx : World, Below w.heap.size w wx → wx.cell? ⟨c, 2, none⟩ = some (.map (some mb)) := fun wx hbx => (hC.below hbx).c2
      -- the worlds of this round
      have htA : Turn (fun x => x = w.heap.size + 1) w1 (W.alloc (.cells #[.int .i64 y] 3)).drew := (HO.out.1.alloc _).drew
      have hbA : Below w.heap.size w (W.alloc (.cells #[.int .i64 y] 3)).drew := Below.of_turn hb01 (by omega) htA (fun k e => by omega)
      have hya : (W.alloc (.cells #[.int .i64 y] 3)).drew.cell? ⟨W.heap.size, 0, none⟩ = some (.int .i64 y) := by
        have := heap_alloc_new W (.cells #[.int .i64 y] 3)
        rw [cell_of_row (W.alloc (.cells #[.int .i64 y] 3)).drew _ 0 _ _ _ this]; rfl
      obtain ⟨WB, hWB⟩ : ∃ WB, WB = (W.alloc (.cells #[.int .i64 y] 3)).drew.alloc (.cells #[.pointer (some ⟨sb q, 0, none⟩)] 115) := ⟨_, rfl⟩
      have htB : Turn (fun x => x = w.heap.size + 1) w1 WB := by rw [hWB]; exact htA.alloc _
      have hbB : Below w.heap.size w WB := Below.of_turn hb01 (by omega) htB (fun k e => by omega)
      have hyB : WB.cell? ⟨W.heap.size, 0, none⟩ = some (.int .i64 y) := by
        rw [hWB]
        exact ((Below.refl (W.heap.size + 1) (W.alloc (.cells #[.int .i64 y] 3)).drew).alloc (by simp) _).cell (p := ⟨W.heap.size, 0, none⟩) (by simp) |>.trans hya
      have hSA := And.intro (hbc _ htA) (And.intro (hcm _ hbA) (And.intro hya (hlook _ hbA)))
      have hSB := And.intro (hbc _ htB) (And.intro (hcm _ hbB) (And.intro hyB (hlook _ hbB)))
      have HS := hid (And.intro hSA hSB)
      have HWB := hid hWB
      have HX := hid (And.intro hC (And.intro hbW (And.intro htB (And.intro hbB (And.intro hWB (And.intro hbc hnm))))))
      clear hq hqs hy hg1 hg1l hg1c hC hZ hlook hbc hcm htA hbA hya htB hbB hyB hSA hSB hb01 hbW hWB
      go_wp2_with fail
      go_region_held3 (fun wx => wx.cell? ⟨w.heap.size, 0, none⟩ = some (.pointer (some ⟨c, 0, none⟩)) ∧ wx.cell? ⟨c, 2, none⟩ = some (.map (some mb)) ∧ wx.cell? ⟨W.heap.size, 0, none⟩ = some (.int .i64 y) ∧ (Instr.lookup 109 (.map (some mb)) (.int .i64 y) false).run Tryz.prog wx = .ok (.pointer (some ⟨sb q, 0, none⟩)) wx)
        (first | exact HS.out.1 | exact HS.out.2) ((go_at_call 78; refine (used_in _ _).mono ?_; rintro e wx ⟨rfl, ex⟩; rw [← HWB.out] at ex; rw [ex]; clear ex wx))
      go_wp2_with fail
      have hWs : WB.heap.size = W.heap.size + 2 := by rw [HWB.out]; simp
      have hWW : Below W.heap.size W WB := by
        rw [HWB.out]
        exact (((Below.refl _ W).alloc (Nat.le_refl _) _).drew).alloc (by simp) _
      have hWl : w1.heap.size ≤ W.heap.size := HO.out.1.size
      have hba : Boxed WB W.heap.size 3 (.int .i64 y) := by
        rw [HWB.out]
        exact Boxed.alloc (W := (W.alloc (.cells #[.int .i64 y] 3)).drew) (Boxed.new W 3 (.int .i64 y)) _
      have hbn : Boxed WB (W.heap.size + 1) 115 (.pointer (some ⟨sb q, 0, none⟩)) := by
        have := Boxed.new (W.alloc (.cells #[.int .i64 y] 3)).drew 115 (.pointer (some ⟨sb q, 0, none⟩))
        rw [HWB.out]
        simpa using this
      have hI0 : Col w1 (w.heap.size + 1) W.heap.size y Ds (Gt U sz m N j ++ ([] : List (Fin 1024)).map (fun x => place sz q x.val)) WB := by
        obtain ⟨ht, hmk, hbx, hrow⟩ := HO.out
        refine ⟨HX.out.2.2.1, ⟨hmk.1, fun D hD => ⟨(hmk.2 D hD).1, (hWW.block D (lt_of (hmk.2 D hD).2)).trans (hmk.2 D hD).2⟩⟩, by omega, hba, v, (hWW.block _ hbx.lt).trans hbx, ?_, fun x hx => ?_⟩
        · rw [List.map_nil, List.append_nil]
          rcases hrow with ⟨h1, h2⟩
          refine ⟨h1, ?_⟩
          rcases h2 with h2 | ⟨g, cap, cur, e1, e2, e3, e4⟩
          · exact .inl h2
          · exact .inr ⟨g, cap, cur, e1, e2, (hWW.block g (lt_of e3)).trans e3, e4⟩
        · rcases hrow.2 with ⟨rfl, _⟩ | ⟨g, cap, cur, rfl, e2, e3, e4⟩
          · simp [Value.ownBlock] at hx
          · obtain rfl : g = x := by simpa [Value.ownBlock] using hx
            have := lt_of e3
            omega
      have hR : Rds WB w.heap.size (W.heap.size + 1) (sb q) (bm q) (gm q) m (ws q) := by
        obtain ⟨hC, hbW, htB, hbB, hWB, hbc, hnm⟩ := HX.out
        have hS := HQ.out.2.1.2
        have hCB := hC.below hbB
        exact ⟨hbn.cell, hCB.s0 hS, hCB.bits q hS, HH.out.2.2.1.below hbB HH.out.2.2.1.pos, hC.lt (.inr (.inr (.inr ⟨q, hS, .inl rfl⟩))), hC.lt (.inr (.inr (.inr ⟨q, hS, .inr (.inl rfl)⟩))), hC.lt (.inr (.inr (.inr ⟨q, hS, .inr (.inr rfl)⟩))), HH.out.2.2.1.pos⟩
      have hm60 : m ≤ 60 := by rw [HH.out.2.2.2]; exact Nat.le_trans (Nat.div_le_div_left hz1 (by omega)) (by omega)
      have hDB : ∀ D, D ∈ Ds → D < WB.heap.size := fun D hD => by have := lt_of (HO.out.2.1.2 D hD).2; omega
      refine (wpIn_wide (n := 6)).1 ?_
      refine wpIn_rangeFunc_ownG rfl (by omega) (gf := 132) (lb := #[.pointer (some ⟨W.heap.size + 1, 0, none⟩)]) rfl trivial (enters_of Tryz.func132 (by kernel_rfl) rfl)
        (used_stops 5 (by omega) (W.heap.size + 1) w.heap.size (sb q) (bm q) (gm q) m (ws q) (by omega) WB (by omega) (by omega) hR) Kp.trans
        (fun X l o o' hl ho hc _ => ⟨(Below.refl _ X).grown (grownBy_putObj' X l o') (by have := lt_of ho; omega) (fun k e => by cases e; omega), World.putObj_heap_other (by omega)⟩) (Below.refl _ _) (fun _ => rfl)
        (fun pre X => Col w1 (w.heap.size + 1) W.heap.size y Ds (Gt U sz m N j ++ pre.map (fun x => place sz q x.val)) X)
        (fun _ _ _ => False)
        (col_ownFrom w1 (w.heap.size + 1) W.heap.size y Ds (fun pre => Gt U sz m N j ++ pre.map (fun x => place sz q x.val)) WB.heap.size (by omega) hDB)
        (fun _ _ _ _ _ hs _ _ => hs) hI0
        (fun x => { tmps := #[.pointer (some ⟨c, 0, none⟩), .pointer (some ⟨w.heap.size, 0, none⟩), .slice none 0 0, .pointer (some ⟨w.heap.size + 1, 0, none⟩), undef, .pointer (some ⟨W.heap.size, 0, none⟩), .int .i64 (x.val : Int), .pointer (some ⟨c, 0, none⟩), .slice (some ⟨g1, 0, none⟩) n cap1, .int .i64 (n : Int), .int .i64 (j : Int), .bool true, .pointer (some ⟨g1, j, none⟩), .int .i64 y, .pointer (some ⟨c, 0, none⟩), .pointer (some ⟨c, 0, none⟩), .pointer (some ⟨c, 2, none⟩), .map (some mb), .int .i64 y, .pointer (some ⟨sb q, 0, none⟩), .func (.func 132) #[] #[.pointer (some ⟨W.heap.size + 1, 0, none⟩)], .int .i64 (x.val : Int), u22, u23, u24, u25, u26, u27, u28, u29, undef], defers := [] }) ?assign ?body ?done ?stop
      case assign =>
        intro l x X K hK
        gi_wp2
        exact hK
      case body =>
        rintro l pre x X hcol hlt
        have hx1 := x.2
        obtain ⟨pl, hpl⟩ : ∃ pl, pl = place sz q x.val := ⟨_, rfl⟩
        obtain ⟨xi, hxi⟩ : ∃ xi : Nat, xi = x.val := ⟨_, rfl⟩
        obtain ⟨ht, hmk, hXb, hbxa, v2, hbx2, hrow2, hob2⟩ := hcol
        have hb01 : Below w.heap.size w w1 := H1.out.2.2.2.trans (H1.out.2.1.mono (by simp; omega))
        have hbX : Below w.heap.size w X := Below.of_turn hb01 (by omega) ht (fun k e => by omega)
        have hXl : w1.heap.size ≤ X.heap.size := ht.size
        have hXa := hbxa.lt
        have hbg : Calls Tryz.prog 73 #[.pointer (some ⟨c, 0, none⟩), .int .i64 y, .int .i64 (xi : Int)] X.drew fun e w' => e = .returned (.int .i64 (pl : Int)) ∧ w' = X.drew := by
          rw [HQ.out.2.2, hpl, hxi]
          exact begin_any X.drew c sz q x.val ((HX.out.1.below hbX).c1) hz2 (by have := HQ.out.2.1.1; omega) (by omega)
        have HBg := hid hbg
        obtain ⟨i0, hi, hz0, hz1', hz2'⟩ := info_parts infoI
        have hlenb : (Gt U sz m N j ++ pre.map fun x : Fin 1024 => place sz q x.val).length ≤ 100000000 := by
          have e1 := Gt_len U sz m N j
          have e2 : j * m ≤ 1048576 * 60 := Nat.mul_le_mul (by omega) hm60
          rw [List.length_append, List.length_map]
          omega
        obtain ⟨ls, hls⟩ : ∃ ls, ls = (Gt U sz m N j ++ pre.map fun x : Fin 1024 => place sz q x.val) := ⟨_, rfl⟩
        rw [← hls] at hrow2 hlenb
        obtain ⟨v3, X3, hr, hrow3, hgrow, _, hob3⟩ := run_append_own_at (P := Tryz.prog) (w := X.drew.alloc (.cells #[.int .i64 (pl : Int)] 3)) w1.heap.size 34 34 3 i0 (.int .i64 0) 1 8 Tryz.underlying34 hi hz0 hz1' hz2' rfl (by decide) v2 ls.length (nums ls) (hrow2.drew.alloc _) ⟨X.heap.size, 0, none⟩ 1 1 [.int .i64 (pl : Int)] rfl (cell_one_new _ _ _) (by simp [Value.oneCell']) (by unfold maxLen; omega) (by omega) (by simp; omega)
        obtain ⟨g3, cap3, rfl⟩ := ownsRow_succ hrow3
        have hbd : Boxed X.drew (w.heap.size + 1) 34 v2 := hbx2
        have hv1 : Boxed X3 (w.heap.size + 1) 34 v2 := (hbd.alloc _).kept hgrow (hbd.not_row (by decide) hrow2.drew)
        have hv4 := hv1.set (.slice (some ⟨g3, 0, none⟩) (ls.length + 1) cap3)
        have hrow4 := hrow3.kept (grownBy_setCell' X3 (w.heap.size + 1) (.slice (some ⟨g3, 0, none⟩) (ls.length + 1) cap3)) (.inr (hv1.not_row (by decide) hrow3).symm)
        have hgb : ∀ g, v2.ownBlock = some g → w1.heap.size ≤ g ∧ ∃ cur, X.heap[g]? = some (.cells cur 3) := fun g hg => by
          rcases hrow2.2 with ⟨rfl, _⟩ | ⟨g', cap', cur, rfl, e1, e2, _⟩
          · simp [Value.ownBlock] at hg
          · obtain rfl : g' = g := by simpa [Value.ownBlock] using hg
            exact ⟨e1, cur, e2⟩
        obtain ⟨X2, hX2⟩ : ∃ X2, X2 = X.drew.alloc (.cells #[.int .i64 (pl : Int)] 3) := ⟨_, rfl⟩
        rw [← hX2] at hgrow hob3
        have hX2s : X2.heap.size = X.heap.size + 1 := by rw [hX2]; simp
        have hX2b : Below X.heap.size X X2 := by rw [hX2]; exact ((Below.refl _ X).drew).alloc (by simp) _
        have hK4 : KeepsOthers X (X3.setCell ⟨w.heap.size + 1, 0, none⟩ (.slice (some ⟨g3, 0, none⟩) (ls.length + 1) cap3)) := by
          refine ((⟨hX2b.size, fun k o hk _ => (hX2b.block k (lt_of hk)).trans hk⟩ : KeepsOthers X X2).trans (KeepsOthers.of_grownBy hgrow fun k o ek hk => ?_)).trans (KeepsOthers.setCell _ _ _)
          obtain ⟨_, cur, e⟩ := hgb k ek
          rw [hX2b.block k (lt_of e), e] at hk
          cases hk; rfl
        have ht3 : Turn (fun x => x = w.heap.size + 1) w1 X3 := (ht.trans (Turn.of_below hX2b)).next (Turn.of_grown (S := fun x => v2.ownBlock = some x) hgrow (fun k e => .inl e)) (fun x e => .inr (hgb x e).1)
        have ht4 : Turn (fun x => x = w.heap.size + 1) w1 (X3.setCell ⟨w.heap.size + 1, 0, none⟩ (.slice (some ⟨g3, 0, none⟩) (ls.length + 1) cap3)) := ht3.trans (Turn.of_grown (grownBy_setCell' X3 _ _) (fun k e => .inl (by cases e; rfl)))
        have hba2 : Boxed X2 W.heap.size 3 (.int .i64 y) := (hX2b.block _ hXa).trans hbxa
        have hba3 : Boxed X3 W.heap.size 3 (.int .i64 y) := hba2.kept hgrow (fun e => (hob2 _ e.symm).1 rfl)
        have hba4 := hba3.other (B' := w.heap.size + 1) (by omega) (.slice (some ⟨g3, 0, none⟩) (ls.length + 1) cap3)
        have htX : Turn (fun x => x = w.heap.size + 1) w1 X.drew := ht.drew
        have hbcs := HX.out.2.2.2.2.2.1
        have hSX := And.intro (hbcs _ htX) (show X.drew.cell? ⟨W.heap.size, 0, none⟩ = some (.int .i64 y) from hbxa.cell)
        have hS2 := And.intro (hbcs _ (htX.alloc (.cells #[.int .i64 (pl : Int)] 3))) (show (X.drew.alloc (.cells #[.int .i64 (pl : Int)] 3)).cell? ⟨W.heap.size, 0, none⟩ = some (.int .i64 y) by rw [← hX2]; exact hba2.cell)
        have hS3 := And.intro (hbcs _ ht3) hba3.cell
        have hS4 := And.intro (hbcs _ ht4) hba4.cell
        have hKp : Kp w.heap.size (W.heap.size + 1) X (X3.setCell ⟨w.heap.size + 1, 0, none⟩ (.slice (some ⟨g3, 0, none⟩) (ls.length + 1) cap3)) := by
          refine ⟨((hX2b.mono (by omega)).grown hgrow (by omega) (fun k e => by have := (hgb k e).1; omega)).setCell (p := ⟨w.heap.size + 1, 0, none⟩) (by show w.heap.size ≤ w.heap.size + 1; omega) _, ?_⟩
          have e1 : (X3.setCell ⟨w.heap.size + 1, 0, none⟩ (.slice (some ⟨g3, 0, none⟩) (ls.length + 1) cap3)).heap[W.heap.size + 1]? = X3.heap[W.heap.size + 1]? := (grownBy_setCell' X3 _ _).block _ (by have := hgrow.size; omega) (fun e => by have : W.heap.size + 1 = w.heap.size + 1 := Option.some.inj e; omega)
          have e2 : X3.heap[W.heap.size + 1]? = X2.heap[W.heap.size + 1]? := hgrow.block _ (by omega) (fun e => (hob2 _ e.symm).2 rfl)
          exact e1.trans (e2.trans (hX2b.block _ (by omega)))
        have hcol4 : Col w1 (w.heap.size + 1) W.heap.size y Ds (Gt U sz m N j ++ (pre ++ [x]).map (fun x => place sz q x.val)) (X3.setCell ⟨w.heap.size + 1, 0, none⟩ (.slice (some ⟨g3, 0, none⟩) (ls.length + 1) cap3)) := by
          refine ⟨ht4, ⟨hmk.1, fun D hD => ⟨(hmk.2 D hD).1, hK4.same D _ (hmk.2 D hD).2 rfl⟩⟩, Nat.lt_of_lt_of_le hXb hK4.size, hba4, _, hv4, ?_, fun z hz => ?_⟩
          · have e : (Gt U sz m N j ++ (pre ++ [x]).map fun x : Fin 1024 => place sz q x.val) = ls ++ [pl] := by
              rw [List.map_append, ← List.append_assoc, ← hls, hpl]; rfl
            have e2 : nums (ls ++ [pl]) = nums ls ++ [.int .i64 (pl : Int)] := by simp [nums]
            rw [e, e2, List.length_append]
            exact hrow4
          · rcases hob3 with e | e
            · exact hob2 z (e.symm.trans hz)
            · rw [e] at hz
              have : X2.heap.size = z := by simpa using hz
              omega
        have hcl1 : X.drew.cell? ⟨w.heap.size + 1, 0, none⟩ = some v2 := hbx2.cell
        have hcl2 : (X.drew.alloc (.cells #[.int .i64 (pl : Int)] 3)).cell? ⟨w.heap.size + 1, 0, none⟩ = some v2 := (hbd.alloc _).cell
        have hcl2b : (X.alloc (.cells #[.int .i64 (pl : Int)] 3)).cell? ⟨w.heap.size + 1, 0, none⟩ = some v2 := (hbx2.alloc _).cell
        have hcl3 := hv1.cell
        have hfr3 := hv1.frozen
        have HF := hid (And.intro (hK4.from WB.heap.size) (And.intro hKp hcol4))
        rw [← hxi]
        clear hbg hls hpl hxi hmk hbxa hbx2 hrow2 hob2 hb01 hbX hi hz0 hz1' hz2' hlenb hrow3 hgrow hob3 hbd hv1 hv4 hrow4 hgb hX2 hX2s hX2b hK4 ht3 ht4 hba2 hba3 hba4 htX hbcs hKp hcol4 ht
        refine wpIn_block ?_
        refine held_inRound (S := fun wx => wx.cell? ⟨w.heap.size, 0, none⟩ = some (.pointer (some ⟨c, 0, none⟩)) ∧ wx.cell? ⟨W.heap.size, 0, none⟩ = some (.int .i64 y)) (by kernel_rfl) ?_ ?_ hSX (fun hHeld => ?_)
        · exact nodef_of (by kernel_rfl)
        · rintro ⟨_, _, hout⟩
          exact hout.elim
        · refine takeH (i := 1) (some 23) (.pointer (some ⟨c, 0, none⟩)) rfl rfl (by kernel_rfl) (by kernel_rfl) (by kernel_rfl) (fun _ _ _ h => h) (Or.inl ⟨by rfl, ?_⟩) (by assumption) ?_
          · (intro w hSw; (try dsimp only at hSw); go_simp)
          simp only [Act.put, List.setIfInBounds_toArray, List.set_cons_zero, List.set_cons_succ]
          refine takeH (i := 2) (some 24) (.int .i64 y) rfl rfl (by kernel_rfl) (by kernel_rfl) (by kernel_rfl) (fun _ _ _ h => h) (Or.inl ⟨by rfl, ?_⟩) (by assumption) ?_
          · (intro w hSw; (try dsimp only at hSw); go_simp)
          simp only [Act.put, List.setIfInBounds_toArray, List.set_cons_zero, List.set_cons_succ]
          refine takeH (i := 3) (some 25) (.int .i64 (xi : Int)) rfl rfl (by kernel_rfl) (by kernel_rfl) (by kernel_rfl) (fun _ _ _ h => h) (Or.inl ⟨by rfl, ?_⟩) (by assumption) ?_
          · (intro w hSw; (try dsimp only at hSw); go_simp)
          simp only [Act.put, List.setIfInBounds_toArray, List.set_cons_zero, List.set_cons_succ]
          refine wpAnyH_ready (rs := [0, 4]) (by kernel_rfl) (by simp) ?_
          refine AllReadyH.cons (by simp only [List.getElem?_toArray, List.getElem?_cons_zero]; rfl) (fun KK hK => ?_) (AllReadyH.cons (by simp only [List.getElem?_toArray, List.getElem?_cons_succ, List.getElem?_cons_zero]; rfl) (fun KK hK => ?_) AllReadyH.nil)
          · go_simp
            refine hK.out _ _ hSX (fun hHeld => ?_)
            clear hK KK
            refine wpAnyH_ready (rs := [4]) (by kernel_rfl) (by simp) ?_
            refine AllReadyH.cons (by simp only [List.getElem?_toArray, List.getElem?_cons_succ, List.getElem?_cons_zero]; rfl) (fun KK hK => ?_) AllReadyH.nil
            go_simp
            refine HBg.out.mono ?_
            rintro e wx ⟨rfl, ex⟩
            rw [ex]
            clear ex wx
            go_wp2_with fail
            refine hK.out _ _ hSX (fun hHeld => ?_)
            clear hK KK
            refine wpAnyH_ready (rs := [5]) (by kernel_rfl) (by simp) ?_
            refine AllReadyH.cons (by simp only [List.getElem?_toArray, List.getElem?_cons_succ, List.getElem?_cons_zero]; rfl) (fun KK hK => ?_) AllReadyH.nil
            go_simp
            refine hK.out _ _ hS2 (fun hHeld => ?_)
            clear hK KK
            refine wpAnyH_ready (rs := [6]) (by kernel_rfl) (by simp) ?_
            refine AllReadyH.cons (by simp only [List.getElem?_toArray, List.getElem?_cons_succ, List.getElem?_cons_zero]; rfl) (fun KK hK => ?_) AllReadyH.nil
            refine step_append_run _ X3 (.slice (some ⟨g3, 0, none⟩) (ls.length + 1) cap3) (by rfl) _ _ 34 (by rfl) v2 (.slice (some ⟨X.heap.size, 0, none⟩) 1 1) (by rfl) (by rfl) hr ?_
            simp only [Act.put, List.setIfInBounds_toArray, List.set_cons_zero, List.set_cons_succ]
            refine hK.out _ _ hS3 (fun hHeld => ?_)
            clear hK KK
            refine wpAnyH_ready (rs := [7]) (by kernel_rfl) (by simp) ?_
            refine AllReadyH.cons (by simp only [List.getElem?_toArray, List.getElem?_cons_succ, List.getElem?_cons_zero]; rfl) (fun KK hK => ?_) AllReadyH.nil
            go_simp
            refine hK.out _ _ hS4 (fun hHeld => ?_)
            clear hK KK
            refine wpAnyH_done (by kernel_rfl) ?_ _
            exact HF.out
          · go_simp
            refine HBg.out.mono ?_
            rintro e wx ⟨rfl, ex⟩
            rw [ex]
            clear ex wx
            go_wp2_with fail
            refine hK.out _ _ hSX (fun hHeld => ?_)
            clear hK KK
            refine wpAnyH_ready (rs := [0, 5]) (by kernel_rfl) (by simp) ?_
            refine AllReadyH.cons (by simp only [List.getElem?_toArray, List.getElem?_cons_zero]; rfl) (fun KK hK => ?_) (AllReadyH.cons (by simp only [List.getElem?_toArray, List.getElem?_cons_succ, List.getElem?_cons_zero]; rfl) (fun KK hK => ?_) AllReadyH.nil)
            · go_simp
              refine hK.out _ _ hSX (fun hHeld => ?_)
              clear hK KK
              refine wpAnyH_ready (rs := [5]) (by kernel_rfl) (by simp) ?_
              refine AllReadyH.cons (by simp only [List.getElem?_toArray, List.getElem?_cons_succ, List.getElem?_cons_zero]; rfl) (fun KK hK => ?_) AllReadyH.nil
              go_simp
              refine hK.out _ _ hS2 (fun hHeld => ?_)
              clear hK KK
              refine wpAnyH_ready (rs := [6]) (by kernel_rfl) (by simp) ?_
              refine AllReadyH.cons (by simp only [List.getElem?_toArray, List.getElem?_cons_succ, List.getElem?_cons_zero]; rfl) (fun KK hK => ?_) AllReadyH.nil
              refine step_append_run _ X3 (.slice (some ⟨g3, 0, none⟩) (ls.length + 1) cap3) (by rfl) _ _ 34 (by rfl) v2 (.slice (some ⟨X.heap.size, 0, none⟩) 1 1) (by rfl) (by rfl) hr ?_
              simp only [Act.put, List.setIfInBounds_toArray, List.set_cons_zero, List.set_cons_succ]
              refine hK.out _ _ hS3 (fun hHeld => ?_)
              clear hK KK
              refine wpAnyH_ready (rs := [7]) (by kernel_rfl) (by simp) ?_
              refine AllReadyH.cons (by simp only [List.getElem?_toArray, List.getElem?_cons_succ, List.getElem?_cons_zero]; rfl) (fun KK hK => ?_) AllReadyH.nil
              go_simp
              refine hK.out _ _ hS4 (fun hHeld => ?_)
              clear hK KK
              refine wpAnyH_done (by kernel_rfl) ?_ _
              exact HF.out
            · go_simp
              refine hK.out _ _ hS2 (fun hHeld => ?_)
              clear hK KK
              refine wpAnyH_ready (rs := [0]) (by kernel_rfl) (by simp) ?_
              refine AllReadyH.cons (by simp only [List.getElem?_toArray, List.getElem?_cons_zero]; rfl) (fun KK hK => ?_) AllReadyH.nil
              go_simp
              refine hK.out _ _ hS2 (fun hHeld => ?_)
              clear hK KK
              refine wpAnyH_ready (rs := [6]) (by kernel_rfl) (by simp) ?_
              refine AllReadyH.cons (by simp only [List.getElem?_toArray, List.getElem?_cons_succ, List.getElem?_cons_zero]; rfl) (fun KK hK => ?_) AllReadyH.nil
              refine step_append_run _ X3 (.slice (some ⟨g3, 0, none⟩) (ls.length + 1) cap3) (by rfl) _ _ 34 (by rfl) v2 (.slice (some ⟨X.heap.size, 0, none⟩) 1 1) (by rfl) (by rfl) hr ?_
              simp only [Act.put, List.setIfInBounds_toArray, List.set_cons_zero, List.set_cons_succ]
              refine hK.out _ _ hS3 (fun hHeld => ?_)
              clear hK KK
              refine wpAnyH_ready (rs := [7]) (by kernel_rfl) (by simp) ?_
              refine AllReadyH.cons (by simp only [List.getElem?_toArray, List.getElem?_cons_succ, List.getElem?_cons_zero]; rfl) (fun KK hK => ?_) AllReadyH.nil
              go_simp
              refine hK.out _ _ hS4 (fun hHeld => ?_)
              clear hK KK
              refine wpAnyH_done (by kernel_rfl) ?_ _
              exact HF.out
      case done =>
        rintro D ys X hD hys hcol hK
        obtain ⟨ht, hmk, _, hbxa, v2, hbx2, hrow2, _⟩ := hcol
        have HY := hid (And.intro ht (And.intro hmk (And.intro hbx2 (And.intro hrow2 (And.intro hys hK)))))
        clear ht hmk hbxa hbx2 hrow2 hys hK
        go_wp2_with fail
        obtain ⟨ht, hmk, hbx2, hrow2, hys, hK⟩ := HY.out
        refine ⟨⟨j + 1, D :: Ds, v2, _, _, _, _, _, _, _, _, _, _, _, _, _, _, _, _, _, _, _, _, _, rfl, by omega, ht, ⟨List.nodup_cons.2 ⟨fun hD2 => by have := hDB D hD2; omega, hmk.1⟩, fun D' hD' => ?_⟩, hbx2, ?_⟩, ?_⟩
        · rcases List.mem_cons.1 hD' with rfl | hD'
          · exact ⟨by omega, hK⟩
          · exact hmk.2 D' hD'
        · have e1 : ones (bit (ws q)) m = ones (U q) m := ones_congr (fun i hi => HX.out.1.bit_ q HQ.out.2.1.2 i hi)
          have e2 : (ys.map fun x : Fin 1024 => place sz q x.val) = (ones (U q) m).map (place sz q) := by
            rw [← e1, ← hys, List.map_map]; rfl
          rw [Gt_next HQ.out.1, ← e2]
          exact hrow2
        · show n - ((j : Int) + 1).toNat < n - (j : Int).toNat
          omega
      case stop =>
        rintro D c pre W _ _ h _
        exact h.elim
end Go.Proofs.YtdmnemgooagehaaGreatDoor

namespace Go.Proofs.YtdmnemgooagehaaGreatDoor
open Go.RowKit Go.Maps

def none_ : Pls := fun _ _ => false
theorem none_slb (m q : Nat) : ¬ Slb none_ m q := fun ⟨_, _, h⟩ => by cases h
theorem none_open (m q : Nat) : ¬ Opened none_ m q := fun h => none_slb m q h.1
theorem map_made {w : World} {b : Nat} (h : w.heap[b]? = some (.map #[] 0)) : Pmap w b 0 (.map []) := by
  obtain ⟨es, cl, hb, F, hs, hD⟩ := World.ownsMap_made w Tryz.prog 3 ptrElem
  have e := (heap_alloc_new w (.map #[] 0)).symm.trans hb
  obtain ⟨rfl, rfl⟩ : #[] = es ∧ 0 = cl := by simpa using e
  exact ⟨#[], 0, h, F, hs, hD⟩
/-- A new cache. -/
theorem new_sl {w w' : World} {b z m : Nat} {e : Ending} (h : SNewPost w b z e w') : ∃ c, e = .returned (.pointer (some ⟨c, 0, none⟩)) ∧ Below w.heap.size w w' ∧ Sl w' (fun x => w.heap.size ≤ x ∧ x < w'.heap.size) c b z m 0 none_ := by
  obtain ⟨c, mb, rfl, hc, hmb, hb, h1, h2, _⟩ := h
  refine ⟨c, rfl, hb, mb, 0, .map [], none, 0, 0, fun _ => 0, fun _ => 0, fun _ => 0, fun _ => 0, fun _ => [], ⟨hc, map_made hmb, Says.start.congr (fun p => ⟨fun h => none_slb _ _ h, fun h => h.elim⟩) (fun _ h => h.elim), fun q hq => absurd hq (none_slb _ _), fun q hq => absurd hq (none_slb _ _), fun q hq => absurd hq (none_slb _ _), .inl ⟨rfl, rfl, rfl⟩, fun k _ hk => absurd hk (Nat.not_lt_zero _), fun q => ⟨fun ⟨k, hk, _⟩ => absurd hk (Nat.not_lt_zero _), fun h => absurd h (none_open _ _)⟩, fun q hq => absurd hq (none_open _ _), fun q _ hq => absurd hq (none_slb _ _), fun q _ hq => absurd hq (none_slb _ _)⟩, ?_, Nat.le_refl _⟩
  rintro x (rfl | rfl | ⟨ad, e, _⟩ | ⟨q, hq, _⟩)
  · exact ⟨h1, lt_of hc⟩
  · exact ⟨h2, lt_of hmb⟩
  · cases e
  · exact absurd hq (none_slb _ _)

/-- Sizes that may be. -/
structure Sz (sz m K : Nat) : Prop where
  lo : 16 ≤ sz
  hi : sz ≤ 512
  m : m = 960 / sz
  k6 : 6 ≤ K
  k20 : K ≤ 20
theorem Sz.page {sz m K : Nat} (h : Sz sz m K) : 64 + m * sz ≤ 1024 := by have := Nat.div_mul_le_self 960 sz; rw [h.m]; omega
theorem Sz.few {sz m K : Nat} (h : Sz sz m K) : m ≤ 60 := by rw [h.m]; exact Nat.le_trans (Nat.div_le_div_left h.lo (by omega)) (by omega)
theorem Sz.one {sz m K : Nat} (h : Sz sz m K) : 0 < m := by rw [h.m]; have := h.hi; have := h.lo; exact Nat.div_pos (by omega) (by omega)
theorem Sz.pages {sz m K : Nat} (h : Sz sz m K) : 2 ^ K ≤ 1048576 := pow_le20 h.k20
theorem Sz.pos {sz m K : Nat} (h : Sz sz m K) : 0 < sz := by have := h.lo; omega

/-- A cache over an allocator, both made behind the world w0; blocks that are others' (G). -/
def Sys (w0 : World) (Bd : Nat) (G : Nat → Prop) (w : World) (p c K sz m ct : Nat) (B : St) (U : Pls) : Prop :=
  ∃ (Z : Nat → Prop) (mm : Nat) (bf gf : Nat → Nat), Below Bd w0 w ∧ Bd ≤ w.heap.size ∧ Tab w ∧ 2 < Bd ∧ Sl w Z c p sz m ct U ∧ Good w p mm K bf gf B ct ∧ (∀ x, Z x → ¬ AB p mm K bf gf x) ∧ (∀ x, Z x → Bd ≤ x) ∧ (∀ x, Own mm K gf x → Bd ≤ x) ∧ Fit B U m (2 ^ K) ∧ ∀ x, G x → Bd ≤ x ∧ x < w.heap.size ∧ ¬ Z x ∧ ¬ AB p mm K bf gf x

section
variable {w0 w w' : World} {Bd p c K sz m ct : Nat} {G : Nat → Prop} {B : St} {U : Pls}
theorem Sys.below (h : Sys w0 Bd G w p c K sz m ct B U) (hb : Below w.heap.size w w') : Sys w0 Bd G w' p c K sz m ct B U := by
  obtain ⟨Z, mm, bf, gf, h1, h2, h3, h4, h5, h6, h7, h8, h9, h10, h11⟩ := h
  exact ⟨Z, mm, bf, gf, Below.of_below h1 h2 hb, Nat.le_trans h2 hb.size, h3.below hb h3.pos, h4, h5.below hb, h6.below hb, h7, h8, h9, h10, fun x hx => ⟨(h11 x hx).1, Nat.lt_of_lt_of_le (h11 x hx).2.1 hb.size, (h11 x hx).2.2⟩⟩
/-- What a call has made that turns nothing is others'. -/
theorem Sys.add (h : Sys w0 Bd G w p c K sz m ct B U) (hb : Below w.heap.size w w') : Sys w0 Bd (fun x => G x ∨ w.heap.size ≤ x ∧ x < w'.heap.size) w' p c K sz m ct B U := by
  obtain ⟨Z, mm, bf, gf, h1, h2, h3, h4, h5, h6, h7, h8, h9, h10, h11⟩ := h
  refine ⟨fun x => Z x ∧ x < w.heap.size, mm, bf, gf, Below.of_below h1 h2 hb, Nat.le_trans h2 hb.size, h3.below hb h3.pos, h4, h5.own.below hb, h6.below hb, fun x hx => h7 x hx.1, fun x hx => h8 x hx.1, h9, h10, fun x hx => ?_⟩
  rcases hx with hx | ⟨e1, e2⟩
  · exact ⟨(h11 x hx).1, Nat.lt_of_lt_of_le (h11 x hx).2.1 hb.size, fun h => (h11 x hx).2.2.1 h.1, (h11 x hx).2.2.2⟩
  · exact ⟨by omega, e2, fun h => by omega, fun h => by have := h6.lab h; omega⟩
/-- .. also where others' blocks turn. -/
theorem Sys.grown (h : Sys w0 Bd G w p c K sz m ct B U) (ht : Turn G w w') : Sys w0 Bd (fun x => G x ∨ w.heap.size ≤ x ∧ x < w'.heap.size) w' p c K sz m ct B U := by
  obtain ⟨Z, mm, bf, gf, h1, h2, h3, h4, h5, h6, h7, h8, h9, h10, h11⟩ := h
  refine ⟨fun x => Z x ∧ x < w.heap.size, mm, bf, gf, Below.of_turn h1 h2 ht (fun x hx => (h11 x hx).1), Nat.le_trans h2 ht.size, h3.turn ht (fun hx => by have := (h11 2 hx).1; omega), h4, h5.own.turn ht (fun x hx hg => (h11 x hg).2.2.1 hx.1), h6.turn ht (fun x hx hg => (h11 x hg).2.2.2 hx), fun x hx => h7 x hx.1, fun x hx => h8 x hx.1, h9, h10, fun x hx => ?_⟩
  rcases hx with hx | ⟨e1, e2⟩
  · exact ⟨(h11 x hx).1, Nat.lt_of_lt_of_le (h11 x hx).2.1 ht.size, fun h => (h11 x hx).2.2.1 h.1, (h11 x hx).2.2.2⟩
  · exact ⟨by omega, e2, fun h => by omega, fun h => by have := h6.lab h; omega⟩
theorem Sys.fewer {G' : Nat → Prop} (h : Sys w0 Bd G w p c K sz m ct B U) (hg : ∀ x, G' x → G x) : Sys w0 Bd G' w p c K sz m ct B U := by
  obtain ⟨Z, mm, bf, gf, h1, h2, h3, h4, h5, h6, h7, h8, h9, h10, h11⟩ := h
  exact ⟨Z, mm, bf, gf, h1, h2, h3, h4, h5, h6, h7, h8, h9, h10, fun x hx => h11 x (hg x hx)⟩
/-- Others' blocks may turn. -/
theorem Sys.others (h : Sys w0 Bd G w p c K sz m ct B U) (ht : Turn G w w') : Sys w0 Bd G w' p c K sz m ct B U := by
  obtain ⟨Z, mm, bf, gf, h1, h2, h3, h4, h5, h6, h7, h8, h9, h10, h11⟩ := h
  exact ⟨Z, mm, bf, gf, Below.of_turn h1 h2 ht (fun x hx => (h11 x hx).1), Nat.le_trans h2 ht.size, h3.turn ht (fun hx => by have := (h11 2 hx).1; omega), h4, h5.turn ht (fun x hx hg => (h11 x hg).2.2.1 hx), h6.turn ht (fun x hx hg => (h11 x hg).2.2.2 hx), h7, h8, h9, h10, fun x hx => ⟨(h11 x hx).1, Nat.lt_of_lt_of_le (h11 x hx).2.1 ht.size, (h11 x hx).2.2⟩⟩
theorem Sys.same (h : Sys w0 Bd G w p c K sz m ct B U) (k : Nat) : Sys w0 Bd G (w.drewN k) p c K sz m ct B U := h.below (below_drewN (Below.refl _ w) k)
theorem Sys.b0 (h : Sys w0 Bd G w p c K sz m ct B U) : Below Bd w0 w := h.choose_spec.choose_spec.choose_spec.choose_spec.1
theorem Sys.more {ct' : Nat} (h : Sys w0 Bd G w p c K sz m ct B U) (hc : ct ≤ ct') : Sys w0 Bd G w p c K sz m ct' B U := by
  obtain ⟨Z, mm, bf, gf, h1, h2, h3, h4, h5, h6, h7, h8, h9, h10, h11⟩ := h
  exact ⟨Z, mm, bf, gf, h1, h2, h3, h4, h5.wide (fun _ h => h) hc, h6.more hc, h7, h8, h9, h10, h11⟩
theorem Sys.fit (h : Sys w0 Bd G w p c K sz m ct B U) : Fit B U m (2 ^ K) := by
  obtain ⟨Z, mm, bf, gf, h1, h2, h3, h4, h5, h6, h7, h8, h9, h10, h11⟩ := h
  exact h10
theorem Sys.inv (h : Sys w0 Bd G w p c K sz m ct B U) : Inv K B ∧ NoHeld B := by
  obtain ⟨Z, mm, bf, gf, h1, h2, h3, h4, h5, h6, h7, h8, h9, h10, h11⟩ := h
  exact ⟨h6.1, h6.2.1⟩

def TakeS (w0 : World) (Bd : Nat) (G : Nat → Prop) (w : World) (p c K sz m ct : Nat) (B : St) (U : Pls) (e : Ending) (w' : World) : Prop :=
  ∃ B' U', Sys w0 Bd G w' p c K sz m (ct + 1) B' U' ∧ (∀ x, G x → w'.heap[x]? = w.heap[x]?) ∧
    ((e = .returned (.tuple #[.int .i64 0, .int .i64 4]) ∧ (∀ q, ¬ Opened U m q) ∧ (∀ k j, B k j ≠ .free) ∧ B' = B ∧ U' = U) ∨
     ∃ q i, e = .returned (.tuple #[.int .i64 ((place sz q i : Nat) : Int), .int .i64 0]) ∧ Taken U U' m q i ∧ Came B B' U m q)
theorem Sys.take (h : Sys w0 Bd G w p c K sz m ct B U) (hz : Sz sz m K) (hc : ct ≤ 1000000) : Calls Tryz.prog 10 #[.pointer (some ⟨c, 0, none⟩)] w (TakeS w0 Bd G w p c K sz m ct B U) := by
  obtain ⟨Z, mm, bf, gf, h1, h2, h3, h4, h5, h6, h7, h8, h9, h10, h11⟩ := h
  refine (stake_any h5 h6 h7 h3 (fun h => by rcases h with h | h; have := h8 2 h; omega; have := h9 2 h; omega) hc hz.k20 rfl h10 hz.lo hz.hi hz.m).mono ?_
  rintro e w' ⟨Z', B', ht, hZ', hG', hh⟩
  have hb : Below Bd w0 w' := Below.of_turn h1 h2 ht (fun x hx => hx.elim (h8 x) (h9 x))
  have hT' : Tab w' := h3.turn ht (fun h => by rcases h with h | h; have := h8 2 h; omega; have := h9 2 h; omega)
  have hs := Nat.le_trans h2 ht.size
  have hd' : ∀ x, Z' x → ¬ AB p mm K bf gf x := fun x hx ha => by
    rcases hZ' x hx with e | e
    · exact h7 x e ha
    · have := h6.lab ha; omega
  have hB' : ∀ x, Z' x → Bd ≤ x := fun x hx => (hZ' x hx).elim (h8 x) (fun e => by omega)
  have hg : ∀ x, G x → w'.heap[x]? = w.heap[x]? := fun x hx => ht.block x (h11 x hx).2.1 (fun h => h.elim (h11 x hx).2.2.1 (fun ho => (h11 x hx).2.2.2 ho.ab))
  have h11' : ∀ x, G x → Bd ≤ x ∧ x < w'.heap.size ∧ ¬ Z' x ∧ ¬ AB p mm K bf gf x := fun x hx => ⟨(h11 x hx).1, Nat.lt_of_lt_of_le (h11 x hx).2.1 ht.size, fun h => (hZ' x h).elim (h11 x hx).2.2.1 (fun e => by have := (h11 x hx).2.1; omega), (h11 x hx).2.2.2⟩
  rcases hh with ⟨rfl, e1, e2, rfl, e4⟩ | ⟨q, i, U', rfl, e1, e2, e3, e4⟩
  · exact ⟨_, _, ⟨Z', mm, bf, gf, hb, hs, hT', h4, e4, hG', hd', hB', h9, h10, h11'⟩, hg, .inl ⟨rfl, e1, e2, rfl, rfl⟩⟩
  · exact ⟨_, _, ⟨Z', mm, bf, gf, hb, hs, hT', h4, e2, hG', hd', hB', h9, e3, h11'⟩, hg, .inr ⟨q, i, rfl, e1, e4⟩⟩

def GiveS (w0 : World) (Bd : Nat) (G : Nat → Prop) (w : World) (p c K sz m ct : Nat) (B : St) (U : Pls) (x : Int) (e : Ending) (w' : World) : Prop :=
  ∃ B' U', Sys w0 Bd G w' p c K sz m ct B' U' ∧ (∀ x, G x → w'.heap[x]? = w.heap[x]?) ∧
    ((e = .returned (.int .i64 6) ∧ (∀ q i, i < m → U q i = true → x ≠ ((place sz q i : Nat) : Int)) ∧ B' = B ∧ U' = U) ∨
     ∃ q i, e = .returned (.int .i64 0) ∧ Given U U' m q i ∧ x = ((place sz q i : Nat) : Int) ∧ ((Slb U' m q ∧ B' = B) ∨ (¬ Slb U' m q ∧ Less B B' 0 q)))
theorem Sys.give (h : Sys w0 Bd G w p c K sz m ct B U) (hz : Sz sz m K) (x : Int) (hx1 : -9223372036854775808 ≤ x) (hx2 : x < 9223372036854775808) : Calls Tryz.prog 13 #[.pointer (some ⟨c, 0, none⟩), .int .i64 x] w (GiveS w0 Bd G w p c K sz m ct B U x) := by
  obtain ⟨Z, mm, bf, gf, h1, h2, h3, h4, h5, h6, h7, h8, h9, h10, h11⟩ := h
  refine (sgive_any x h5 h6 h7 h3 (fun h => by rcases h with h | h; have := h8 2 h; omega; have := h9 2 h; omega) hz.pages h10 hz.lo hz.hi hz.m hx1 hx2).mono ?_
  rintro e w' ⟨Z', B', ht, hZ', hG', hh⟩
  have hb : Below Bd w0 w' := Below.of_turn h1 h2 ht (fun x hx => hx.elim (h8 x) (h9 x))
  have hT' : Tab w' := h3.turn ht (fun h => by rcases h with h | h; have := h8 2 h; omega; have := h9 2 h; omega)
  have hs := Nat.le_trans h2 ht.size
  have hd' : ∀ x, Z' x → ¬ AB p mm K bf gf x := fun x hx ha => by
    rcases hZ' x hx with e | e
    · exact h7 x e ha
    · have := h6.lab ha; omega
  have hB' : ∀ x, Z' x → Bd ≤ x := fun x hx => (hZ' x hx).elim (h8 x) (fun e => by omega)
  have hg : ∀ x, G x → w'.heap[x]? = w.heap[x]? := fun x hx => ht.block x (h11 x hx).2.1 (fun h => h.elim (h11 x hx).2.2.1 (fun ho => (h11 x hx).2.2.2 ho.ab))
  have h11' : ∀ x, G x → Bd ≤ x ∧ x < w'.heap.size ∧ ¬ Z' x ∧ ¬ AB p mm K bf gf x := fun x hx => ⟨(h11 x hx).1, Nat.lt_of_lt_of_le (h11 x hx).2.1 ht.size, fun h => (hZ' x h).elim (h11 x hx).2.2.1 (fun e => by have := (h11 x hx).2.1; omega), (h11 x hx).2.2.2⟩
  rcases hh with ⟨rfl, e1, rfl, e4⟩ | ⟨q, i, rfl, e1, e2, e3, e4, e5, e6⟩
  · exact ⟨_, _, ⟨Z', mm, bf, gf, hb, hs, hT', h4, e4, hG', hd', hB', h9, h10, h11'⟩, hg, .inl ⟨rfl, e1, rfl, rfl⟩⟩
  · exact ⟨_, _, ⟨Z', mm, bf, gf, hb, hs, hT', h4, e4, hG', hd', hB', h9, e5, h11'⟩, hg, .inr ⟨q, i, rfl, ⟨e1, e2, rfl⟩, e3, e6⟩⟩
theorem Sys.has (h : Sys w0 Bd G w p c K sz m ct B U) (hz : Sz sz m K) (x : Int) (hx1 : -9223372036854775808 ≤ x) (hx2 : x < 9223372036854775808) : Calls Tryz.prog 16 #[.pointer (some ⟨c, 0, none⟩), .int .i64 x] w (SHasPost w sz m U x) := by
  obtain ⟨Z, mm, bf, gf, h1, h2, h3, h4, h5, h6, h7, h8, h9, h10, h11⟩ := h
  exact shas_any x h5 hz.lo hz.hi hz.m hx1 hx2
theorem Sys.slabs (h : Sys w0 Bd G w p c K sz m ct B U) (hc : ct ≤ 1000000) : Calls Tryz.prog 15 #[.pointer (some ⟨c, 0, none⟩)] w (SlabsPost w (slabsOf U m (2 ^ K))) := by
  obtain ⟨Z, mm, bf, gf, h1, h2, h3, h4, h5, h6, h7, h8, h9, h10, h11⟩ := h
  exact slabs_any h5 h10 hc
theorem Sys.used (h : Sys w0 Bd G w p c K sz m ct B U) (hz : Sz sz m K) (hc : ct ≤ 1000000) : Calls Tryz.prog 14 #[.pointer (some ⟨c, 0, none⟩)] w (SlabsPost w (usedOf U sz m (2 ^ K))) := by
  obtain ⟨Z, mm, bf, gf, h1, h2, h3, h4, h5, h6, h7, h8, h9, h10, h11⟩ := h
  exact sused_any h5 h10 h3 hc hz.pages hz.lo hz.hi hz.m
theorem Sys.left (h : Sys w0 Bd G w p c K sz m ct B U) : Calls Tryz.prog 62 #[.pointer (some ⟨p, 0, none⟩)] w fun e w' => e = .returned (.int .i64 ((pages K (isK B .free) (K + 1) * 1024 : Nat) : Int)) ∧ w' = w := by
  obtain ⟨Z, mm, bf, gf, h1, h2, h3, h4, h5, h6, h7, h8, h9, h10, h11⟩ := h
  exact left_any w p mm K bf gf B ct h6.2.2 h6.1
theorem Sys.free (h : Sys w0 Bd G w p c K sz m ct B U) : Calls Tryz.prog 25 #[.pointer (some ⟨p, 0, none⟩)] w (Got B .free w) := by
  obtain ⟨Z, mm, bf, gf, h1, h2, h3, h4, h5, h6, h7, h8, h9, h10, h11⟩ := h
  exact got_free w p mm K bf gf B ct h6 h3
theorem Sys.c1 (h : Sys w0 Bd G w p c K sz m ct B U) : w.cell? ⟨c, 1, none⟩ = some (.int .i64 (sz : Int)) := by
  obtain ⟨Z, mm, bf, gf, h1, h2, h3, h4, ⟨mb, nm, D, a, cap, nn, L, sb, bm, gm, ws, hC, _⟩, _⟩ := h
  exact hC.c1
end
/-- Both are made. -/
theorem sys_new {w0 w : World} {Bd p mm K sz m : Nat} {bf gf : Nat → Nat} {w' : World} {e : Ending} (hb : Below Bd w0 w) (hB : Bd ≤ w.heap.size) (hT : Tab w) (h1 : 2 < Bd) (hG : Good w p mm K bf gf (begin_ K) 0) (ho : ∀ x, Own mm K gf x → Bd ≤ x) (h : SNewPost w p sz e w') :
    ∃ c, e = .returned (.pointer (some ⟨c, 0, none⟩)) ∧ Below w.heap.size w w' ∧ Sys w0 Bd (fun _ => False) w' p c K sz m 0 (begin_ K) none_ := by
  obtain ⟨c, rfl, hb2, hS⟩ := new_sl (m := m) h
  refine ⟨c, rfl, hb2, _, mm, bf, gf, Below.of_below hb hB hb2, Nat.le_trans hB hb2.size, hT.below hb2 hT.pos, h1, hS, hG.below hb2, fun x hx ha => by have := hG.lab ha; omega, fun x hx => by omega, ho, ⟨fun q hq => absurd hq (none_slb _ _), fun _ _ h => by cases h⟩, fun _ h => h.elim⟩
end Go.Proofs.YtdmnemgooagehaaGreatDoor

namespace Go.Proofs.YtdmnemgooagehaaGreatDoor
open Go.RowKit Go.Maps

/-- The used blocks are just the slabs. -/
def Exact (B : St) (U : Pls) (m : Nat) : Prop := ∀ k i, B k i = .used ↔ k = 0 ∧ Slb U m i
theorem Exact.start (K m : Nat) : Exact (begin_ K) none_ m := fun k i => ⟨fun h => absurd ((begin_us K k i).1 h) (by simp), fun h => absurd h.2 (none_slb _ _)⟩
theorem Exact.take {B B' : St} {U U' : Pls} {m q i : Nat} (h : Exact B U m) (ht : Taken U U' m q i) (hc : Came B B' U m q) : Exact B' U' m := fun k r => by
  have hs : Slb U' m r ↔ Slb U m r ∨ r = q := by
    rw [ht.now]
    by_cases e : r = q
    · subst e; exact ⟨fun _ => .inr rfl, fun _ => slb_on ht.lt⟩
    · rw [slb_other true e]; exact ⟨.inl, fun h => h.resolve_right e⟩
  rcases hc with ⟨h1, rfl⟩ | ⟨_, _, _, hp, _⟩
  · rw [h k r, hs]
    exact ⟨fun ⟨a, b⟩ => ⟨a, .inl b⟩, fun ⟨a, b⟩ => ⟨a, b.elim id (fun e => e ▸ h1)⟩⟩
  · rw [hp k r, h k r, hs]
    exact ⟨fun e => e.elim (fun ⟨a, b⟩ => ⟨a, .inl b⟩) (fun ⟨a, b⟩ => ⟨a, .inr b⟩), fun ⟨a, b⟩ => b.elim (fun b => .inl ⟨a, b⟩) (fun b => .inr ⟨a, b⟩)⟩
theorem Exact.give {B B' : St} {U U' : Pls} {m q i : Nat} (h : Exact B U m) (ht : Given U U' m q i) (hc : (Slb U' m q ∧ B' = B) ∨ (¬ Slb U' m q ∧ Less B B' 0 q)) : Exact B' U' m := fun k r => by
  have hq : Slb U m q := ⟨i, ht.lt, ht.used⟩
  have hs : r ≠ q → (Slb U' m r ↔ Slb U m r) := fun e => by rw [ht.now]; exact slb_other false e
  rcases hc with ⟨h1, rfl⟩ | ⟨h1, hl⟩
  · rw [h k r]
    by_cases e : r = q
    · subst e; exact ⟨fun ⟨a, _⟩ => ⟨a, h1⟩, fun ⟨a, _⟩ => ⟨a, hq⟩⟩
    · rw [hs e]
  · rw [hl k r, h k r]
    by_cases e : r = q
    · subst e
      exact ⟨fun ⟨⟨a, _⟩, b⟩ => absurd ⟨a, rfl⟩ b, fun ⟨_, b⟩ => absurd b h1⟩
    · rw [hs e]
      exact ⟨fun ⟨a, _⟩ => a, fun a => ⟨a, fun b => e b.2⟩⟩
theorem pages_zero {K : Nat} {f : Nat → Nat → Bool} : ∀ {N : Nat}, (∀ k i, k < N → f k i = false) → pages K f N = 0
  | 0, _ => rfl
  | N + 1, h => by
    unfold pages
    have e : cnt (f N) (2 ^ (K - N)) = 0 := by
      have : cnt (f N) (2 ^ (K - N)) = cnt (fun _ => false) (2 ^ (K - N)) := cnt_congr (fun i _ => h N i (by omega))
      rw [this]
      have e2 : ∀ n, cnt (fun _ => false) n = 0 := fun n => by
        induction n with
        | zero => rfl
        | succ n ih => unfold cnt; rw [ih]; rfl
      exact e2 _
    rw [pages_zero (fun k i hk => h k i (by omega)), e]; omega
theorem pages_low {K : Nat} {f : Nat → Nat → Bool} (h : ∀ k i, 0 < k → f k i = false) : ∀ N, pages K f (N + 1) = cnt (f 0) (2 ^ K)
  | 0 => by simp [pages]
  | N + 1 => by
    have ih := pages_low (K := K) h N
    show pages K f (N + 1) + cnt (f (N + 1)) (2 ^ (K - (N + 1))) * 2 ^ (N + 1) = _
    rw [ih]
    have e : cnt (f (N + 1)) (2 ^ (K - (N + 1))) = 0 := by
      have : cnt (f (N + 1)) (2 ^ (K - (N + 1))) = cnt (fun _ => false) (2 ^ (K - (N + 1))) := cnt_congr (fun i _ => h (N + 1) i (by omega))
      rw [this]
      have e2 : ∀ n, cnt (fun _ => false) n = 0 := fun n => by
        induction n with
        | zero => rfl
        | succ n ih => unfold cnt; rw [ih]; rfl
      exact e2 _
    rw [e]; omega
/-- How many pages are left, by how many slabs there are. -/
theorem Exact.left {B : St} {U : Pls} {m K : Nat} (h : Exact B U m) (hi : Inv K B) (hn : NoHeld B) : pages K (isK B .free) (K + 1) + (slabsOf U m (2 ^ K)).length = 2 ^ K := by
  have e1 := pages_all hi hn
  have e2 : pages K (isK B .used) (K + 1) = cnt (fun p => decide (0 < cnt (U p) m)) (2 ^ K) := by
    rw [pages_low (fun k i hk => by unfold isK; simp; intro e; have := ((h k i).1 e).1; omega)]
    refine cnt_congr (fun i _ => ?_)
    unfold isK
    rw [decide_eq_decide, h 0 i, slb_cnt]
    simp
  have e3 : (slabsOf U m (2 ^ K)).length = cnt (fun p => decide (0 < cnt (U p) m)) (2 ^ K) := by
    unfold slabsOf
    rw [List.length_map]
    unfold pagesOf
    rw [ones_len]
  omega
theorem ints_len {w : World} {base : Nat} {v : Value} {l : List Nat} {k : Nat} (h : w.ownsRow base 3 1 v l.length (nums l)) (hk : l.length = k) : ∃ a cap, v = .slice a k cap ∧ Ints w base a l := by subst hk; exact ints_of h
end Go.Proofs.YtdmnemgooagehaaGreatDoor
