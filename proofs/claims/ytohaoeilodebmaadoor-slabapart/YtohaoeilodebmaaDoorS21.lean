/- A cache: Slabs. -/
import Derived.Test.YtohaoeilodebmaaDoorSh
import Derived.Test.YtohaoeilodebmaaDoorS20
namespace Go.Proofs.YtohaoeilodebmaaDoor
open Go.RowKit Go.Maps Go.Sort Go.Shelf

theorem sorts76 (m : Nat) : AnyZI.SortsIn Tryd.prog Tryd.sortedP_ren Fence.wide m :=
  ⟨fun blk off cap ss W hH hblk hsz => callsIn_wide.2 (AnyM.slices_Sort_int Tryd.sortP blk off cap ss W hH hblk hsz),
   fun p cap W => callsIn_wide.2 (AnyM.slices_Sort_int_none Tryd.sortP p cap W)⟩

theorem slabs_nil (w : World) : Calls Tryd.prog 28 #[.pointer none] w fun e w' => e = .returned (.slice none 0 0) ∧ w' = w := by
  go_enter Tryd.func28, Tryd.ntmps28
  go_wp2
  go_ret
  exact ⟨rfl, rfl⟩
set_option maxRecDepth 100000 in
set_option maxHeartbeats 1000000 in
theorem slabs_raw (c b nn : Nat) (D0 : DataW Unit) (w : World) (hc2 : w.cell? ⟨c, 2, none⟩ = some (.map (some b))) (hown : Pmap w b nn D0) (hmax : Maps.size D0 ≤ maxLen) (hbytes : Maps.size D0 * 8 ≤ 140737488355328) :
    Calls Tryd.prog 28 #[.pointer (some ⟨c, 0, none⟩)] w fun e w' => ∃ (v : Value) (ss : List Int), e = .returned v ∧ ss.Perm (intKeys D0) ∧
      w'.ownsRow w.heap.size 3 1 v ss.length ((ss.mergeSort (fun x y => decide (x ≤ y))).map encZ) ∧ (v = .slice none 0 0 ↔ ss = []) ∧ Below w.heap.size w w' := by
  refine (callsIn_wide (n := 6)).1 ?_
  have hbl := hown.lt
  have hseq : SeqGives Fence.wide 2 Tryd.prog 77 #[.pointer (some ⟨w.heap.size, 0, none⟩)] encZ (fun ss => ss.Perm (intKeys D0)) (Maps.size D0) (w.alloc (.cells #[.map (some b)] 75)) :=
    AnyZI.keys_gives (ρ := Tryd.keysP_ren) { Tryd.keysP with } Fence.wide _ trivial rfl (by omega) w.heap.size b nn D0 _ (by simp) (by simp) (by
      obtain ⟨es, clock, hb, Ft, hs, hD⟩ := hown
      exact ⟨es, clock, (Below.heap_alloc _ _ b hbl).trans hb, Ft, hs, hD⟩)
  have cK : ∀ mb W, CallsIn Fence.wide 5 Tryd.prog 57 #[.map mb] W fun e w' => e = .returned (.func (.func 77) #[] #[.pointer (some ⟨W.heap.size, 0, none⟩)]) ∧ w' = W.alloc (.cells #[.map mb] 75) := fun mb W => AnyZI.keys_in Tryd.keysP Fence.wide 5 trivial rfl mb W
  have cS := AnyZI.sorted_in Tryd.sortedP Fence.wide 5 trivial trivial trivial trivial rfl (by omega) (sorts76 _) (enters_of Tryd.func76 (by kernel_rfl) rfl) 77 #[.pointer (some ⟨w.heap.size, 0, none⟩)] trivial (enters_of Tryd.func77 (by kernel_rfl) rfl) _ _ hmax hbytes _ hseq
  change CallsIn _ _ Tryd.prog 56 _ _ _ at cS
  have hfK : Fence.wide.fn 57 := trivial
  have hfS : Fence.wide.fn 56 := trivial
  clear hseq
  refine callsIn_of_wp Tryd.func28 rfl trivial ?_ rfl
  simp only [Tryd.ntmps28, List.size_toArray, List.length_cons, List.length_nil, Nat.reduceAdd, Nat.reduceSub, Array.replicate_succ, Array.replicate_zero, List.push_toArray, List.append_toArray, List.nil_append, List.cons_append]
  gi_wp2_with (first
    | (gi_at_call 57; refine (cK _ _).mono ?_; rintro e w' ⟨rfl, rfl⟩)
    | (gi_at_call 56; refine cS.mono ?_; rintro e w' ⟨v, ss, rfl, hS, hrow, hnil, hb⟩))
  go_ret
  exact ⟨v, ss, rfl, hS, ownsRow_base_a hrow (by simp), hnil, ((Below.refl _ w).alloc (Nat.le_refl _) _).trans (hb.mono (by simp))⟩

/-- Numbers as a slice's cells. -/
def nums (l : List Nat) : List Value := l.map fun x : Nat => Value.int .i64 (x : Int)
/-- A slice of numbers, in a block beyond base. -/
def Ints (w : World) (base : Nat) (a : Option Addr) (l : List Nat) : Prop := l = [] ∨ ∃ g cur, a = some ⟨g, 0, none⟩ ∧ base ≤ g ∧ w.heap[g]? = some (.cells cur 3) ∧ ∀ j (h : j < l.length), cur[j]? = some (.int .i64 (l[j] : Int))
theorem Ints.cell {w : World} {base : Nat} {a : Option Addr} {l : List Nat} (h : Ints w base a l) {j x : Nat} (hj : l[j]? = some x) : ∃ g, a = some ⟨g, 0, none⟩ ∧ base ≤ g ∧ g < w.heap.size ∧ w.cell? ⟨g, j, none⟩ = some (.int .i64 (x : Int)) := by
  obtain ⟨hl, rfl⟩ := List.getElem?_eq_some_iff.1 hj
  rcases h with rfl | ⟨g, cur, rfl, hb, hg, hc⟩
  · cases hl
  · exact ⟨g, rfl, hb, lt_of hg, by rw [cell_of_row w g j _ _ _ hg, hc j hl]⟩
theorem Ints.other {w w' : World} {base : Nat} {a : Option Addr} {l : List Nat} (h : Ints w base a l) (ho : ∀ g, a = some ⟨g, 0, none⟩ → base ≤ g → g < w.heap.size → w'.heap[g]? = w.heap[g]?) : Ints w' base a l := by
  rcases h with rfl | ⟨g, cur, rfl, hb, hg, hc⟩
  · exact .inl rfl
  · exact .inr ⟨g, cur, rfl, hb, (ho g rfl hb (lt_of hg)).trans hg, hc⟩
theorem Ints.below {w w' : World} {base : Nat} {a : Option Addr} {l : List Nat} (h : Ints w base a l) (hb : Below w.heap.size w w') : Ints w' base a l := h.other fun g _ _ hg => hb.block g hg
theorem ints_of {w : World} {base : Nat} {v : Value} {l : List Nat} (h : w.ownsRow base 3 1 v l.length (nums l)) : ∃ a cap, v = .slice a l.length cap ∧ Ints w base a l := by
  rcases h.2 with ⟨rfl, h0⟩ | ⟨g, cap, cur, rfl, hbase, hb, h1, h2, h3, h4⟩
  · obtain rfl := List.eq_nil_of_length_eq_zero h0
    exact ⟨none, 0, rfl, .inl rfl⟩
  · refine ⟨some ⟨g, 0, none⟩, cap, rfl, .inr ⟨g, cur, rfl, hbase, hb, fun j hj => ?_⟩⟩
    have e1 : cur[j]? = (nums l)[j]? := by rw [← h4, List.getElem?_take_of_lt (by omega), Array.getElem?_toList]
    rw [e1]; simp [nums, hj]

theorem Says.keys {w : World} {mb nm : Nat} {D : DataW Unit} {S : Nat → Prop} {sb : Nat → Nat} (h : Says D S sb) (hm : Pmap w mb nm D) {l : List Nat} (hup : l.Pairwise (· < ·)) (hl : ∀ x, x ∈ l ↔ ∃ q, S q ∧ x = q * 1024) : (l.map fun x : Nat => (x : Int)).Perm (intKeys D) := by
  refine CollectedI.perm (left := fun _ => false) ⟨?_, fun x => ?_⟩ hm law3 Tryd.underlying3 (fun _ => rfl)
  · rw [List.nodup_iff_pairwise_ne, List.pairwise_map]
    exact hup.imp (fun h => by omega)
  · rw [h.key, List.mem_map]
    constructor
    · rintro ⟨y, hy, rfl⟩
      obtain ⟨q, hq, rfl⟩ := (hl y).1 hy
      exact ⟨⟨q, hq, rfl⟩, rfl⟩
    · rintro ⟨⟨q, hq, rfl⟩, _⟩
      exact ⟨q * 1024, (hl _).2 ⟨q, hq, rfl⟩, rfl⟩

def SlabsPost (w : World) (l : List Nat) (e : Ending) (w' : World) : Prop := ∃ v, e = .returned v ∧ w'.ownsRow w.heap.size 3 1 v l.length (nums l) ∧ Below w.heap.size w w'
theorem slabs_any {w : World} {Z : Nat → Prop} {c p sz m ct : Nat} {U : Pls} {B : St} {N : Nat} (h : Sl w Z c p sz m ct U) (hF : Fit B U m N) (hct : ct ≤ 1000000) : Calls Tryd.prog 28 #[.pointer (some ⟨c, 0, none⟩)] w (SlabsPost w (slabsOf U m N)) := by
  obtain ⟨mb, nm, D, a, cap, nn, L, sb, bm, gm, ws, hC, hZ, hnm⟩ := h
  have hsz := hC.map.size_le
  refine (slabs_raw c mb nm D w hC.c2 hC.map (by unfold maxLen; omega) (by omega)).mono ?_
  rintro e w' ⟨v, ss, rfl, hp, hrow, _, hb⟩
  have hk := hC.says.keys hC.map (slabsOf_up U m N) (fun x => by
    rw [slabsOf_mem]
    exact ⟨fun ⟨q, _, hs, e⟩ => ⟨q, hs, e⟩, fun ⟨q, hs, e⟩ => ⟨q, (hF.page q hs).2, hs, e⟩⟩)
  have hs := mergeSort_of_perm_i (hp.trans hk.symm)
  have hid_ : ((slabsOf U m N).map fun x : Nat => (x : Int)).mergeSort leI = (slabsOf U m N).map fun x : Nat => (x : Int) := by
    refine List.mergeSort_of_pairwise ?_
    rw [List.pairwise_map]
    exact (slabsOf_up U m N).imp (fun h => by simp only [leI, decide_eq_true_eq]; omega)
  have hlen : ss.length = (slabsOf U m N).length := by rw [(hp.trans hk.symm).length_eq, List.length_map]
  refine ⟨v, rfl, ?_, hb⟩
  have e2 : (ss.mergeSort (fun x y => decide (x ≤ y))).map encZ = nums (slabsOf U m N) := by
    show (ss.mergeSort leI).map encZ = _
    rw [hs, hid_, List.map_map]
    rfl
  rw [e2, hlen] at hrow
  exact hrow
end Go.Proofs.YtohaoeilodebmaaDoor
