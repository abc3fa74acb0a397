/- The contract of sortByAddress: the library's slices.SortFunc at blocks. -/
import Derived.Test.YtohaoeilodebmaaDoorG
import Derived.Shelf.SlSortCmp.NoneTotal
import Derived.Laws.OwnMore
namespace Go.Proofs
open Go.Shelf Go.RowKit Go.Lib Go.Sort
def Tryd.sortB_ren : Go.Shelf.Ren := ⟨fun | 6 => 67 | 15 => 80 | 14 => 79 | 28 => 92 | 29 => 93 | 20 => 84 | 21 => 85 | 22 => 86 | 23 => 87 | 24 => 88 | 25 => 89 | 26 => 90 | 27 => 91 | 46 => 103 | 47 => 104 | 48 => 105 | 49 => 106 | 50 => 107 | 57 => 111 | n => n, fun | 22 => 32 | 24 => 44 | 25 => 106 | 3 => 3 | 39 => 61 | 0 => 0 | 53 => 97 | 55 => 99 | 4 => 4 | 46 => 126 | 45 => 125 | 50 => 69 | 5 => 5 | 9 => 9 | 66 => 136 | 70 => 140 | 76 => 144 | 77 => 39 | n => n, fun | n => n⟩
theorem Tryd.sortB : Go.Proofs.SlLaysF0.n6 Tryd.prog Tryd.sortB_ren := {
  mixed := by kernel_rfl
  f6 := ⟨Tryd.f67.name, by decide, Tryd.func67.trans (congrArg some (by kernel_rfl))⟩
  f14 := ⟨Tryd.f79.name, by decide, Tryd.func79.trans (congrArg some (by kernel_rfl))⟩
  f15 := Tryd.func80.trans (congrArg some (by kernel_rfl))
  f20 := ⟨Tryd.f84.name, by decide, Tryd.func84.trans (congrArg some (by kernel_rfl))⟩
  f21 := ⟨Tryd.f85.name, by decide, Tryd.func85.trans (congrArg some (by kernel_rfl))⟩
  f22 := ⟨Tryd.f86.name, by decide, Tryd.func86.trans (congrArg some (by kernel_rfl))⟩
  f23 := ⟨Tryd.f87.name, by decide, Tryd.func87.trans (congrArg some (by kernel_rfl))⟩
  f24 := ⟨Tryd.f88.name, by decide, Tryd.func88.trans (congrArg some (by kernel_rfl))⟩
  f25 := ⟨Tryd.f89.name, by decide, Tryd.func89.trans (congrArg some (by kernel_rfl))⟩
  f26 := ⟨Tryd.f90.name, by decide, Tryd.func90.trans (congrArg some (by kernel_rfl))⟩
  f27 := ⟨Tryd.f91.name, by decide, Tryd.func91.trans (congrArg some (by kernel_rfl))⟩
  f28 := Tryd.func92.trans (congrArg some (by kernel_rfl))
  f29 := Tryd.func93.trans (congrArg some (by kernel_rfl))
  f46 := ⟨Tryd.f103.name, by decide, Tryd.func103.trans (congrArg some (by kernel_rfl))⟩
  f47 := Tryd.func104.trans (congrArg some (by kernel_rfl))
  f48 := Tryd.func105.trans (congrArg some (by kernel_rfl))
  f49 := ⟨Tryd.f106.name, by decide, Tryd.func106.trans (congrArg some (by kernel_rfl))⟩
  f50 := ⟨Tryd.f107.name, by decide, Tryd.func107.trans (congrArg some (by kernel_rfl))⟩
  f57 := ⟨Tryd.f111.name, by decide, Tryd.func111.trans (congrArg some (by kernel_rfl))⟩
  t0 := Tryd.underlying0
  a0 := Tryd.isAgg0
  z0 := Tryd.sizeOf0
  v0 := Tryd.zeroValue0
  t3 := Tryd.underlying3
  a3 := Tryd.isAgg3
  z3 := Tryd.sizeOf3
  v3 := Tryd.zeroValue3
  t4 := Tryd.underlying4
  a4 := Tryd.isAgg4
  z4 := Tryd.sizeOf4
  v4 := Tryd.zeroValue4
  t5 := Tryd.underlying5
  a5 := Tryd.isAgg5
  z5 := Tryd.sizeOf5
  v5 := Tryd.zeroValue5
  t9 := Tryd.underlying9
  a9 := Tryd.isAgg9
  z9 := Tryd.sizeOf9
  v9 := Tryd.zeroValue9
  t22 := Tryd.underlying32
  a22 := Tryd.isAgg32
  z22 := Tryd.sizeOf32
  v22 := Tryd.zeroValue32
  t25 := Tryd.underlying106
  a25 := Tryd.isAgg106
  z25 := Tryd.sizeOf106
  v25 := Tryd.zeroValue106
  t39 := Tryd.underlying61
  a39 := Tryd.isAgg61
  z39 := Tryd.sizeOf61
  v39 := Tryd.zeroValue61
  t45 := Tryd.underlying125
  a45 := Tryd.isAgg125
  z45 := Tryd.sizeOf125
  v45 := Tryd.zeroValue125
  t46 := Tryd.underlying126
  a46 := Tryd.isAgg126
  z46 := Tryd.sizeOf126
  v46 := Tryd.zeroValue126
  t50 := Tryd.underlying69
  a50 := Tryd.isAgg69
  z50 := Tryd.sizeOf69
  v50 := Tryd.zeroValue69
  t53 := Tryd.underlying97
  a53 := Tryd.isAgg97
  z53 := Tryd.sizeOf97
  v53 := Tryd.zeroValue97
  t55 := Tryd.underlying99
  a55 := Tryd.isAgg99
  z55 := Tryd.sizeOf99
  v55 := Tryd.zeroValue99
  t66 := Tryd.underlying136
  a66 := Tryd.isAgg136
  z66 := Tryd.sizeOf136
  v66 := Tryd.zeroValue136
  t70 := Tryd.underlying140
  a70 := Tryd.isAgg140
  z70 := Tryd.sizeOf140
  v70 := Tryd.zeroValue140
  t76 := Tryd.underlying144
  a76 := Tryd.isAgg144
  z76 := Tryd.sizeOf144
  v76 := Tryd.zeroValue144
  t77 := Tryd.underlying39
  a77 := Tryd.isAgg39
  z77 := Tryd.sizeOf39
  v77 := Tryd.zeroValue39 }
end Go.Proofs
namespace Go.Proofs.YtohaoeilodebmaaDoor
open Go.Shelf Go.RowKit Go.Lib Go.Sort Go.Maps

/-- A block's two cells. -/
def encB (x : Nat × Nat) : List Value := [.int .i64 ((x.1 * 1024 : Nat) : Int), .int .i64 (x.2 : Int)]
def bcells (L : List (Nat × Nat)) : List Value := L.flatMap encB
theorem bcells_length (L : List (Nat × Nat)) : (bcells L).length = L.length * 2 := by
  induction L with
  | nil => rfl
  | cons a L ih => simp [bcells, encB] at *; omega
theorem bcells_get : ∀ (L : List (Nat × Nat)) (t : Nat), t < L.length * 2 → (bcells L)[t]? = some (encB L[t / 2]!)[t % 2]!
  | [], t, h => by simp at h
  | a :: L, 0, _ => rfl
  | a :: L, 1, _ => rfl
  | a :: L, t + 2, h => by
    have h1 : (bcells (a :: L))[t + 2]? = (bcells L)[t]? := rfl
    rw [h1, bcells_get L t (by simp at h; omega), show (t + 2) / 2 = t / 2 + 1 from by omega, show (t + 2) % 2 = t % 2 from by omega]
    rfl
theorem flatB (L : List (Nat × Nat)) : (flatK encB 2 L.toArray).toList = bcells L := by
  apply List.ext_getElem?
  intro t
  by_cases ht : t < L.length * 2
  · rw [bcells_get L t ht, Array.getElem?_toList, Array.getElem?_eq_getElem (by simpa using ht), ← getElem!_pos _ t (by simpa using ht), get_flatK _ _ _ _ (by simpa using ht)]
    simp
  · rw [List.getElem?_eq_none (by simp; omega), List.getElem?_eq_none (by rw [bcells_length]; omega)]

theorem isNaN_any (x : Int) (w : World) : Calls Tryd.prog 81 #[.int .i64 x] w fun e w' => e = .returned (.bool false) ∧ w' = w := by
  go_enter Tryd.func81, Tryd.ntmps81
  go_wp2
  go_ret
  exact ⟨ret_bool (by simp), rfl⟩

theorem compare_any (x y : Int) (w : World) : Calls Tryd.prog 69 #[.int .i64 x, .int .i64 y] w fun e w' => e = .returned (.int .i64 (Lib.compareInt x y)) ∧ w' = w := by
  unfold Lib.compareInt
  by_cases h1 : x < y
  · rw [if_pos h1]
    go_enter Tryd.func69, Tryd.ntmps69
    go_wp2_with (go_at_call 81; refine (isNaN_any _ _).mono ?_; rintro e w' ⟨rfl, rfl⟩)
    go_ret
    exact ⟨rfl, rfl⟩
  · by_cases h2 : y < x
    · rw [if_neg h1, if_pos h2]
      go_enter Tryd.func69, Tryd.ntmps69
      go_wp2_with (go_at_call 81; refine (isNaN_any _ _).mono ?_; rintro e w' ⟨rfl, rfl⟩)
      go_ret
      exact ⟨rfl, rfl⟩
    · rw [if_neg h1, if_neg h2]
      go_enter Tryd.func69, Tryd.ntmps69
      go_wp2_with (go_at_call 81; refine (isNaN_any _ _).mono ?_; rintro e w' ⟨rfl, rfl⟩)
      go_ret
      exact ⟨rfl, rfl⟩

def cmpB (x y : Nat × Nat) : Int := Lib.compareInt ((x.1 * 1024 : Nat) : Int) ((y.1 * 1024 : Nat) : Int)
theorem ltB (x y : Nat × Nat) : ltOf cmpB x y = decide (x.1 < y.1) := by
  unfold ltOf cmpB Lib.compareInt
  by_cases h1 : x.1 < y.1
  · rw [if_pos (by omega)]; simp [h1]
  · by_cases h2 : y.1 < x.1
    · rw [if_neg (by omega), if_pos (by omega)]; simp [h1]
    · rw [if_neg (by omega), if_neg (by omega)]; simp [h1]
theorem swoB : SWO (ltOf cmpB) where
  irrefl x := by rw [ltB]; simp
  trans x y z h1 h2 := by rw [ltB] at *; simp at *; omega
  ntrans x y z h1 h2 := by rw [ltB] at *; simp at *; omega

set_option maxRecDepth 100000 in
set_option maxHeartbeats 1000000 in
theorem closure49 (x y : Nat × Nat) (W : World) : Calls Tryd.prog 68 #[.agg (encB x).toArray, .agg (encB y).toArray] W fun e w' => e = .returned (.int .i64 (cmpB x y)) ∧ ∃ q os', w' = grow (W.drewN q) os' := by
  have hcon := fun W' => compare_any ((x.1 * 1024 : Nat) : Int) ((y.1 * 1024 : Nat) : Int) W'
  unfold encB cmpB
  generalize ((x.1 * 1024 : Nat) : Int) = a at *
  generalize ((y.1 * 1024 : Nat) : Int) = b at *
  generalize Lib.compareInt a b = r at hcon ⊢
  go_enter Tryd.func68, Tryd.ntmps68
  go_wp2_with (go_at_call 69; refine (hcon _).mono ?_; rintro e w' ⟨rfl, rfl⟩)
  go_ret
  exact ⟨rfl, 0, _, by rw [alloc_eq_grow, alloc_eq_grow, grow_grow]; rfl⟩

theorem cmpLays49 (blk off size : Nat) (w : World) : CmpLays Tryd.prog 68 #[] encB 2 cmpB blk off size w := fun _ _ _ _ x y => closure49 x y _
theorem isAgg44 (w : World) : (isAgg 44).run Tryd.prog w = .ok true w := by kernel_rfl
theorem sizeOf44 (w : World) : (Go.sizeOf 44).run Tryd.prog w = .ok 2 w := by kernel_rfl

set_option maxHeartbeats 1000000 in
theorem sort_none (a : Option Addr) (cap : Nat) (w : World) : Calls Tryd.prog 41 #[.slice a 0 cap] w fun e w' => e = .returned (.tuple #[]) ∧ w' = w := by
  have hcon := fun fv w => AnyF.slices_SortFunc_none Tryd.sortB a cap fv w
  change ∀ fv w, Calls Tryd.prog 67 _ _ _ at hcon
  go_enter Tryd.func41, Tryd.ntmps41
  go_wp2_with (go_at_call 67; refine (hcon _ _).mono ?_; rintro e w' ⟨rfl, rfl⟩)
  go_end0
  exact ⟨rfl, rfl⟩

theorem heap_sortedB {w : World} {g n : Nat} {os : Array Obj} {cur : Array Value} {e : TypeId} {fr : Nat × Nat} (d : Array (Nat × Nat)) (hb : w.heap[g]? = some (.cells cur e fr)) :
    (sortWorldK encB 2 w g 0 n d os).heap[g]? = some (.cells (putCells id 0 (flatK encB 2 d) cur) e fr) := by
  have hg : g < w.heap.size := (Array.getElem?_eq_some_iff.1 hb).1
  unfold sortWorldK putRowK
  rw [heap_grow_old _ _ (by simpa using hg)]
  simp [putRow, mapBlock, Sort.ahead, Array.getElem?_modify, hb, onCells]
theorem grownBy_sortedB {w : World} {g n : Nat} {os : Array Obj} (d : Array (Nat × Nat)) : w.grownBy (sortWorldK encB 2 w g 0 n d os) (some g) := by
  unfold sortWorldK putRowK
  refine ⟨rfl, rfl, rfl, by simp, fun k hk hne => ?_⟩
  rw [heap_grow_old _ _ (by simpa using hk)]
  have : g ≠ k := fun e => hne (by rw [e])
  simp [putRow, mapBlock, Sort.ahead, Array.getElem?_modify, this]
theorem take_putB (cur : Array Value) (F : Array Value) (h : F.size ≤ cur.size) : (putCells id 0 F cur).toList.take F.size = F.toList := by
  apply List.ext_getElem?
  intro j
  by_cases hj : j < F.size
  · rw [List.getElem?_take_of_lt hj, Array.getElem?_toList]
    simp [putCells, hj, show j < cur.size by omega]
  · rw [List.getElem?_take_eq_none (by omega), List.getElem?_eq_none (by simp; omega)]

def SortPost (base : Nat) (v : Value) (L : List (Nat × Nat)) (w : World) (e : Ending) (w' : World) : Prop :=
  e = .returned (.tuple #[]) ∧ ∃ L' : List (Nat × Nat), L'.Perm L ∧ L'.Pairwise (fun a b => a.1 ≤ b.1) ∧ w'.ownsRow base 44 2 v L.length (bcells L') ∧ w.grownBy w' v.ownBlock

set_option maxHeartbeats 1000000 in
theorem sort_any (base : Nat) (v : Value) (L : List (Nat × Nat)) (w : World) (hown : w.ownsRow base 44 2 v L.length (bcells L)) (hl : L.length ≤ 100000000) :
    Calls Tryd.prog 41 #[v] w (SortPost base v L w) := by
  rcases hown.2 with ⟨rfl, h0⟩ | ⟨g, cap, cur, rfl, hbase, hb, h1, h2, h3, h4⟩
  · refine (sort_none none 0 w).mono ?_
    rintro e w' ⟨rfl, rfl⟩
    obtain rfl := List.eq_nil_of_length_eq_zero h0
    exact ⟨rfl, [], List.Perm.refl _, List.Pairwise.nil, hown, ⟨rfl, rfl, rfl, Nat.le_refl _, fun _ _ _ => rfl⟩⟩
  · have hH : HoldsK encB 2 w g 0 L.toArray := by
      intro j hj
      have hj' : j < L.length * 2 := by simpa using hj
      refine ⟨?_, by simp [World.frozen?, hb]⟩
      have e1 : cur[j]? = (bcells L)[j]? := by rw [← h4, List.getElem?_take_of_lt hj', Array.getElem?_toList]
      rw [Nat.zero_add, cell_of_row w g j _ _ _ hb, e1, ← flatB, Array.getElem?_toList, Array.getElem?_eq_getElem hj, getElem!_pos _ j hj]
      rfl
    have hgl := (Array.getElem?_eq_some_iff.1 hb).1
    have eg : ∀ args w, (callFunc 68 args).run Tryd.prog w = .ok (.enter 68 args) w := enters_of Tryd.func68 (by kernel_rfl) rfl
    have hcon := AnyQ.slices_SortFunc Tryd.sortB 2 isAgg44 sizeOf44 encB (fun _ => rfl) (fun x v hv => by simp [encB] at hv; rcases hv with rfl | rfl <;> rfl) cmpB swoB 68 #[] g 0 cap L.toArray w eg (cmpLays49 g 0 _ w) hH hgl (by simp; omega)
    change Calls Tryd.prog 67 _ _ _ at hcon
    rw [List.size_toArray] at hcon
    have HB := hid hb
    have H4 := hid h4
    clear hH eg hown hb h4
    go_enter Tryd.func41, Tryd.ntmps41
    go_wp2_with (go_at_call 67; refine hcon.mono ?_; rintro e w' ⟨rfl, d', n, os, hp, hs, rfl⟩)
    go_end0
    have hsz : d'.size = L.length := by rw [hp.1]; simp
    refine ⟨rfl, d'.toList, ?_, ?_, ?_, grownBy_sortedB d'⟩
    · have := hp.2.2
      simpa [List.take_of_length_le (show d'.toList.length ≤ L.length by simp [hsz])] using this
    · rw [List.pairwise_iff_getElem]
      intro i j hi hj hij
      have := hs i j (Nat.zero_le _) hij (by simpa [hsz] using hj)
      rw [ltB, getElem!_pos d' i (by simpa using hi), getElem!_pos d' j (by simpa using hj)] at this
      have h5 := of_decide_eq_false this
      simp only [Array.getElem_toList]
      omega
    · refine ⟨by rw [bcells_length]; simp [hsz], .inr ⟨g, cap, _, rfl, hbase, heap_sortedB d' HB.out, h1, h2, by simp [putCells, h3], ?_⟩⟩
      have e2 : (flatK encB 2 d').size = L.length * 2 := by simp [hsz]
      rw [← e2, take_putB _ _ (by rw [e2, h3]; exact Nat.mul_le_mul_right _ h1), ← flatB]
end Go.Proofs.YtohaoeilodebmaaDoor
