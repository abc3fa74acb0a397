/- Slabs: contracts of newSlab, full, begin, Size, Many. · A new cache. · A map whose values are pointers to slabs: how they read; a look-up. · Caches as what is used of each page: places that are taken one behind the other; lists of slabs and of used places; what the map of slabs says; two caches; the document's lists and its search. No program is named here. · A cache in memory: its map of slabs, its slabs, its open ones. · A cache: the contract of find. · A cache: a slab less or more in the heap; a slab more or less in the map. · A cache: addSlab. · A cache: dropSlab. · A cache: what Take does with the first open slab. · A cache: Take. · A cache: Give and Has. -/
import Derived.Test.YtdmnemgooagehaaGreatDoorWc
import Derived.Maps.OwnOps
import Derived.Test.YtdmnemgooagehaaGreatDoorWa
import Derived.Maps.Views
import Derived.Maps.OwnSet
namespace Go.Proofs.YtdmnemgooagehaaGreatDoor
open Go.RowKit Go.Maps

theorem size_nil (w : World) : Calls Tryz.prog 11 #[.pointer none] w fun e w' => e = .returned (.int .i64 0) ∧ w' = w := by
  go_enter Tryz.func11, Tryz.ntmps11
  go_wp2
  go_ret
  exact ⟨rfl, rfl⟩
theorem size_any (w : World) (c z : Nat) (h : w.cell? ⟨c, 1, none⟩ = some (.int .i64 (z : Int))) : Calls Tryz.prog 11 #[.pointer (some ⟨c, 0, none⟩)] w fun e w' => e = .returned (.int .i64 (z : Int)) ∧ w' = w := by
  go_enter Tryz.func11, Tryz.ntmps11
  go_wp2
  go_ret
  exact ⟨rfl, rfl⟩
theorem many_nil (w : World) : Calls Tryz.prog 12 #[.pointer none] w fun e w' => e = .returned (.int .i64 0) ∧ w' = w := by
  go_enter Tryz.func12, Tryz.ntmps12
  go_wp2
  go_ret
  exact ⟨rfl, rfl⟩
theorem many_any (w : World) (c z : Nat) (h : w.cell? ⟨c, 1, none⟩ = some (.int .i64 (z : Int))) (h1 : 16 ≤ z) (h2 : z ≤ 512) : Calls Tryz.prog 12 #[.pointer (some ⟨c, 0, none⟩)] w fun e w' => e = .returned (.int .i64 ((960 / z : Nat) : Int)) ∧ w' = w := by
  obtain ⟨k, hk⟩ : ∃ k : Nat, k = 960 / z := ⟨_, rfl⟩
  have hkb : k ≤ 960 := by rw [hk]; exact Nat.div_le_self _ _
  have hd : (960 : Int).tdiv (z : Int) = (k : Int) := by rw [hk, Int.tdiv_eq_ediv_of_nonneg (by omega)]; rfl
  have hz0 : ((z : Int) == 0) = false := by rw [beq_eq_false_iff_ne]; omega
  rw [← hk]
  clear hk
  go_enter Tryz.func12, Tryz.ntmps12
  go_wp2
  go_ret
  exact ⟨rfl, rfl⟩
theorem begin_any (w : World) (c z p i : Nat) (h : w.cell? ⟨c, 1, none⟩ = some (.int .i64 (z : Int))) (hz : z ≤ 512) (hp : p ≤ 1048576) (hi : i ≤ 1048576) :
    Calls Tryz.prog 73 #[.pointer (some ⟨c, 0, none⟩), .int .i64 ((p * 1024 : Nat) : Int), .int .i64 (i : Int)] w fun e w' => e = .returned (.int .i64 ((p * 1024 + 64 + i * z : Nat) : Int)) ∧ w' = w := by
  obtain ⟨a, ha⟩ : ∃ a : Nat, a = p * 1024 := ⟨_, rfl⟩
  obtain ⟨y, hy⟩ : ∃ y : Nat, y = i * z := ⟨_, rfl⟩
  have hm : (i : Int) * (z : Int) = (y : Int) := by rw [hy, Int.natCast_mul]
  have hyb : y ≤ 536870912 := by rw [hy]; exact Nat.le_trans (Nat.mul_le_mul hi hz) (by omega)
  have hab : a ≤ 1073741824 := by omega
  rw [← ha, ← hy]
  clear ha hy
  go_enter Tryz.func73, Tryz.ntmps73
  go_wp2
  go_ret
  refine ⟨?_, rfl⟩
  simp

def NewSlabPost (w : World) (p many : Nat) (e : Ending) (w' : World) : Prop := ∃ s b g, e = .returned (.pointer (some ⟨s, 0, none⟩)) ∧ w'.heap[s]? = some (.cells #[.pointer (some ⟨b, 0, none⟩), .int .i64 ((p * 1024 : Nat) : Int), .int .i64 0] 118) ∧
  Bits w' b g many (List.replicate ((many + 63) / 64) 0) ∧ Below w.heap.size w w' ∧ w.heap.size ≤ s ∧ w.heap.size ≤ b ∧ w.heap.size ≤ g ∧ s ≠ b ∧ s ≠ g
theorem newSlab_any (w : World) (p many : Nat) (hm : many ≤ 1000) : Calls Tryz.prog 125 #[.int .i64 ((p * 1024 : Nat) : Int), .int .i64 (many : Int)] w (NewSlabPost w p many) := by
  obtain ⟨a, ha⟩ : ∃ a : Nat, a = p * 1024 := ⟨_, rfl⟩
  rw [← ha]
  have HA := hid ha
  clear ha
  go_enter Tryz.func125, Tryz.ntmps125
  go_wp2_with fail
  refine (new_ok many w (by omega)).mono ?_
  rintro e w1 ⟨b, g, rfl, hB, hb, h1, h2⟩
  have HB := hid (And.intro hB (And.intro hb (And.intro h1 h2)))
  clear hB hb h1 h2
  go_wp2_with fail
  go_ret
  obtain ⟨hB, hb, h1, h2⟩ := HB.out
  have hX := hb.alloc hb.size (.cells #[.pointer (some ⟨b, 0, none⟩), .int .i64 (a : Int), .int .i64 0] 118)
  refine ⟨w1.heap.size, b, g, rfl, by rw [← HA.out]; exact heap_alloc_new w1 _, ⟨?_, ?_, hB.unlike, hB.small, hB.ok⟩, hX, hb.size, h1, h2, ?_, ?_⟩
  · exact (Below.heap_alloc w1 _ b hB.lt.1).trans hB.head
  · exact (Below.heap_alloc w1 _ g hB.lt.2).trans hB.body
  · have := hB.lt.1; omega
  · have := hB.lt.2; omega
theorem full_any (w : World) (s b g n : Nat) (ws : List Nat) (hs : w.cell? ⟨s, 0, none⟩ = some (.pointer (some ⟨b, 0, none⟩))) (hB : Bits w b g n ws) (hT : Tab w) :
    Calls Tryz.prog 71 #[.pointer (some ⟨s, 0, none⟩)] w fun e w' => ∃ f : Bool, e = .returned (.bool f) ∧ Hid (f = true ↔ ∀ j, j < n → bit ws j = true) ∧ w' = w := by
  have HB := hid (And.intro hB hT)
  clear hB hT
  go_enter Tryz.func71, Tryz.ntmps71
  go_wp2_with fail
  refine (first_any b g n ws false 0 w HB.out.1 HB.out.2 (by omega)).mono ?_
  rintro e w1 ⟨r, rfl, hr, rfl⟩
  rcases hr with ⟨rfl, hn⟩ | ⟨k, rfl, _, hk, hb, _⟩
  · have HN := hid hn
    clear hn
    go_wp2_with fail
    go_ret
    refine ⟨true, rfl, ⟨fun _ j hj => ?_, fun _ => rfl⟩, rfl⟩
    have := HN.out j (Nat.zero_le _) hj
    cases h : bit ws j
    · exact absurd h this
    · rfl
  · have HN := hid (And.intro hk hb)
    clear hk hb
    go_wp2_with fail
    go_ret
    refine ⟨false, rfl, Iff.intro (fun h => absurd h (by decide)) (fun h => ?_), rfl⟩
    have h1 := h k HN.out.1
    rw [HN.out.2] at h1
    exact absurd h1 (by decide)
end Go.Proofs.YtdmnemgooagehaaGreatDoor

namespace Go.Proofs.YtdmnemgooagehaaGreatDoor
open Go.RowKit Go.Maps

theorem snew_nil (z : Int) (w : World) : Calls Tryz.prog 8 #[.pointer none, .int .i64 z] w fun e w' => e = .returned (.pointer none) ∧ w' = w := by
  go_enter Tryz.func8, Tryz.ntmps8
  go_wp2
  go_ret
  exact ⟨rfl, rfl⟩
theorem snew_no (b : Nat) (z : Int) (w : World) (hz : z < 16 ∨ 512 < z ∨ z % 16 ≠ 0) : Calls Tryz.prog 8 #[.pointer (some ⟨b, 0, none⟩), .int .i64 z] w fun e w' => e = .returned (.pointer none) ∧ w' = w := by
  by_cases h1 : z < 16
  · go_enter Tryz.func8, Tryz.ntmps8
    go_wp2
    go_ret
    exact ⟨rfl, rfl⟩
  by_cases h2 : 512 < z
  · go_enter Tryz.func8, Tryz.ntmps8
    go_wp2
    go_ret
    exact ⟨rfl, rfl⟩
  have h3 : z % 16 ≠ 0 := by omega
  obtain ⟨r, hr⟩ : ∃ r, z.tmod 16 = r := ⟨_, rfl⟩
  have hr0 : (r != 0) = true := by
    rw [bne_iff_ne, ← hr, Int.tmod_eq_emod_of_nonneg (by omega)]; exact h3
  have hrb : 0 ≤ r ∧ r < 16 := by rw [← hr, Int.tmod_eq_emod_of_nonneg (by omega)]; omega
  clear hz h3
  go_enter Tryz.func8, Tryz.ntmps8
  go_wp2
  go_ret
  exact ⟨rfl, rfl⟩

def SNewPost (w : World) (b z : Nat) (e : Ending) (w' : World) : Prop := ∃ c m, e = .returned (.pointer (some ⟨c, 0, none⟩)) ∧ w'.heap[c]? = some (.cells #[.pointer (some ⟨b, 0, none⟩), .int .i64 (z : Int), .map (some m), .slice none 0 0] 113) ∧
  w'.heap[m]? = some (.map #[] 0) ∧ Below w.heap.size w w' ∧ w.heap.size ≤ c ∧ w.heap.size ≤ m ∧ c ≠ m
set_option maxRecDepth 100000 in
theorem snew_any (b z : Nat) (w : World) (h1 : 16 ≤ z) (h2 : z ≤ 512) (h3 : z % 16 = 0) : Calls Tryz.prog 8 #[.pointer (some ⟨b, 0, none⟩), .int .i64 (z : Int)] w (SNewPost w b z) := by
  have hmm := @run_makeMap Tryz.prog
  have hr : (z : Int).tmod 16 = 0 := by rw [Int.tmod_eq_emod_of_nonneg (by omega)]; omega
  have hr2 : (z : Int) % 16 = 0 := by omega
  clear h3
  go_enter Tryz.func8, Tryz.ntmps8
  go_wp2
  go_ret
  refine ⟨w.heap.size + 1, w.heap.size, rfl, ?_, heap_alloc2_old w _ _, ((Below.refl w.heap.size w).alloc (Nat.le_refl _) _).alloc (by simp) _, by omega, Nat.le_refl _, by omega⟩
  have := heap_alloc_new (w.alloc (.map #[] 0)) (.cells #[.pointer (some ⟨b, 0, none⟩), .int .i64 (z : Int), .map (some w.heap.size), .slice none 0 0] 113)
  simpa using this
end Go.Proofs.YtdmnemgooagehaaGreatDoor

namespace Go.Proofs.YtdmnemgooagehaaGreatDoor
open Go.RowKit Go.Maps

/-- A pointer to a whole block reads as the block's number, nil as nil. -/
def ptrElem (v : Value) : Option (DataW Unit × List MemPlace) :=
  match v with
  | .pointer none => some (.nil, [])
  | .pointer (some ⟨b, 0, none⟩) => some (.lit (.int .i64 (b : Int)), [])
  | _ => none
theorem ptrElem_mk (b : Nat) : ptrElem (.pointer (some ⟨b, 0, none⟩)) = some (.lit (.int .i64 (b : Int)), []) := rfl
theorem ptrElem_nil : ptrElem (.pointer none) = some (.nil, []) := rfl
theorem ptrElem_inv {v : Value} {d : DataW Unit} {ps : List MemPlace} (h : ptrElem v = some (d, ps)) : (v = .pointer none ∧ d = .nil) ∨ ∃ b : Nat, v = .pointer (some ⟨b, 0, none⟩) ∧ d = .lit (.int .i64 (b : Int)) := by
  unfold ptrElem at h
  split at h
  · left
    simp at h
    exact ⟨rfl, h.1.symm⟩
  · right
    simp at h
    exact ⟨_, rfl, h.1.symm⟩
  · cases h
/-- The map of slabs. -/
abbrev Pmap (w : World) (m n : Nat) (D : DataW Unit) : Prop := w.ownsMap Tryz.prog 3 ptrElem m n D
theorem zero82 (w : World) : (zeroValue 115).run Tryz.prog w = .ok (.pointer none) w := by kernel_rfl
/-- 'm[k]' at pointers: nil, or a block. -/
theorem wpList_lookup_ptr (w : World) {ops : Array Oper} {rest : List Oper} {o : Oper} {a : Act} {Q : Exit → Act → World → Prop} (hg : o.guard = none) (m x : Operand) (hop : o.op = Op.lookup 109 m x false) (b n : Nat) (D : DataW Unit)
    (hm : a.eval m = .map (some b)) (hown : Pmap w b n D) (key : Value) (kl : Lit) (hx : a.eval x = key) (hkey : keyOf Tryz.prog 3 key = some kl)
    (hK : ∀ s : Option Nat, (match s with | none => D.atKey kl .nil = .nil | some s => D.atKey kl .nil = .lit (.int .i64 (s : Int))) → wpList Tryz.prog ops Q rest (a.put o.dst (.pointer (s.map fun s => ⟨s, 0, none⟩))) w) :
    wpList Tryz.prog ops Q (o :: rest) a w := by
  refine wpList_plain hg fun K' hK' => ?_
  obtain ⟨v, ps, hrun, hv⟩ := hown.lookup law3 Tryz.underlying109 (zero82 w) ptrElem_nil hkey
  unfold Oper.wp
  simp [execOp, hop, hm, hx, hrun, Result.andThen]
  rcases ptrElem_inv hv with ⟨rfl, hd⟩ | ⟨s, rfl, hd⟩
  · exact hK' _ _ (hK none hd)
  · exact hK' _ _ (hK (some s) hd)
end Go.Proofs.YtdmnemgooagehaaGreatDoor

namespace Go.Proofs.YtdmnemgooagehaaGreatDoor

/-- Which places are used: of the page p the i-th. -/
abbrev Pls := Nat → Nat → Bool
def setU (U : Pls) (p i : Nat) (b : Bool) : Pls := fun q j => if q = p ∧ j = i then b else U q j
theorem setU_same (U : Pls) (p i : Nat) (b : Bool) : setU U p i b p i = b := by simp [setU]
theorem setU_ne (U : Pls) {p i q j : Nat} (b : Bool) (h : ¬ (q = p ∧ j = i)) : setU U p i b q j = U q j := by simp [setU, h]
theorem setU_page (U : Pls) {p i q : Nat} (b : Bool) (h : q ≠ p) : setU U p i b q = U q := by funext j; simp [setU, h]
theorem setU_back (U : Pls) {p i : Nat} {b c : Bool} (h : U p i = c) : setU (setU U p i b) p i c = U := by
  funext q j
  by_cases e : q = p ∧ j = i
  · obtain ⟨rfl, rfl⟩ := e; rw [setU_same, h]
  · rw [setU_ne _ _ e, setU_ne _ _ e]
/-- A page of which a place is used. -/
def Slb (U : Pls) (m p : Nat) : Prop := ∃ i, i < m ∧ U p i = true
/-- .. and of which a place is free. -/
def Opened (U : Pls) (m p : Nat) : Prop := Slb U m p ∧ ∃ i, i < m ∧ U p i = false
theorem cnt_pos {f : Nat → Bool} : ∀ {n : Nat}, 0 < cnt f n ↔ ∃ i, i < n ∧ f i = true
  | 0 => by simp [cnt]
  | n + 1 => by
    have ih := cnt_pos (f := f) (n := n)
    unfold cnt
    constructor
    · intro h
      by_cases e : f n = true
      · exact ⟨n, by omega, e⟩
      · have e2 : f n = false := by simpa using e
        rw [e2] at h
        obtain ⟨i, hi, hf⟩ := ih.1 (by simpa using h)
        exact ⟨i, by omega, hf⟩
    · rintro ⟨i, hi, hf⟩
      by_cases e : i = n
      · subst e; rw [hf]; simp
      · have := ih.2 ⟨i, by omega, hf⟩; omega
theorem slb_cnt (U : Pls) (m p : Nat) : Slb U m p ↔ 0 < cnt (U p) m := cnt_pos.symm
theorem cnt_setU {U : Pls} {m p i : Nat} (hi : i < m) (b : Bool) : cnt (setU U p i b p) m + (U p i).toNat = cnt (U p) m + b.toNat := by
  have := cnt_turn (f := U p) (g := setU U p i b p) (i := i) (fun j hj => setU_ne U b (fun h => hj h.2)) hi
  rw [setU_same] at this
  exact this
theorem slb_on {U : Pls} {m p i : Nat} (hi : i < m) : Slb (setU U p i true) m p := ⟨i, hi, setU_same _ _ _ _⟩
theorem slb_other {U : Pls} {m p i q : Nat} (b : Bool) (h : q ≠ p) : Slb (setU U p i b) m q ↔ Slb U m q := by unfold Slb; rw [setU_page U b h]

/-- A place that is taken: the lowest free one of the page p, where others are used, or where nothing is and no page is open. -/
structure Taken (U U' : Pls) (m p i : Nat) : Prop where
  lt : i < m
  free : U p i = false
  low : ∀ j, j < i → U p j = true
  now : U' = setU U p i true
  page : (Slb U m p ∧ ∀ q, Opened U m q → p ≤ q) ∨ ((∀ q, ¬ Opened U m q) ∧ ¬ Slb U m p)

/-- So many places were taken, none given back: slab by slab (ps tells their pages), place by place. -/
structure Row (m t : Nat) (ps : Nat → Nat) (U : Pls) : Prop where
  used : ∀ p i, U p i = true ↔ ∃ s, p = ps s ∧ i < m ∧ s * m + i < t
  one : ∀ a b, a * m < t → b * m < t → ps a = ps b → a = b
theorem Row.start (m : Nat) (ps : Nat → Nat) : Row m 0 ps (fun _ _ => false) := ⟨fun p i => by simp, fun a b h => by omega⟩
theorem Row.at_ {m t : Nat} {ps : Nat → Nat} {U : Pls} (h : Row m t ps U) {s i : Nat} (hs : s * m < t) : U (ps s) i = true ↔ i < m ∧ s * m + i < t := by
  rw [h.used]
  constructor
  · rintro ⟨s', e, hi, hl⟩
    obtain rfl : s = s' := h.one s s' hs (by omega) e
    exact ⟨hi, hl⟩
  · rintro ⟨hi, hl⟩
    exact ⟨s, rfl, hi, hl⟩
theorem Row.slb {m t : Nat} {ps : Nat → Nat} {U : Pls} (h : Row m t ps U) (hm : 0 < m) (p : Nat) : Slb U m p ↔ ∃ s, p = ps s ∧ s * m < t := by
  constructor
  · rintro ⟨i, hi, hu⟩
    obtain ⟨s, e, _, hl⟩ := (h.used p i).1 hu
    exact ⟨s, e, by omega⟩
  · rintro ⟨s, rfl, hl⟩
    exact ⟨0, hm, (h.used _ _).2 ⟨s, rfl, hm, by omega⟩⟩
def put (ps : Nat → Nat) (s p : Nat) : Nat → Nat := fun x => if x = s then p else ps x
theorem put_at (ps : Nat → Nat) (s p : Nat) : put ps s p s = p := by simp [put]
theorem put_ne (ps : Nat → Nat) {s p x : Nat} (h : x ≠ s) : put ps s p x = ps x := by simp [put, h]
theorem div_eq {m s i t : Nat} (hi : i < m) (h : t = s * m + i) : s = t / m ∧ i = t % m := by
  subst h
  rw [Nat.mul_comm, Nat.mul_add_div (by omega), Nat.mul_add_mod, Nat.div_eq_of_lt hi, Nat.mod_eq_of_lt hi]
  exact ⟨by omega, rfl⟩
/-- One place more. -/
theorem Row.take {m t p i : Nat} {ps : Nat → Nat} {U U' : Pls} (h : Row m t ps U) (hm : 0 < m) (ht : Taken U U' m p i) : i = t % m ∧ Row m (t + 1) (put ps (t / m) p) U' ∧ (t % m ≠ 0 → p = ps (t / m)) ∧ (t % m = 0 → ¬ Slb U m p) := by
  have hdm := Nat.div_add_mod t m
  rw [Nat.mul_comm] at hdm
  have hmod := Nat.mod_lt t hm
  have hlt : ∀ s, s * m < t → s ≤ t / m := fun s hs => by
    rw [Nat.le_div_iff_mul_le hm]; omega
  have key : i = t % m ∧ (t % m ≠ 0 → p = ps (t / m)) ∧ (t % m = 0 → ¬ Slb U m p) := by
    rcases ht.page with ⟨hs, _⟩ | ⟨hno, hs⟩
    · obtain ⟨s, rfl, hst⟩ := (h.slb hm p).1 hs
      have hf := ht.free
      have h1 : ¬ (s * m + i < t) := fun hl => by
        have := (h.at_ hst (i := i)).2 ⟨ht.lt, hl⟩
        rw [hf] at this; cases this
      have h2 : s * m + i ≤ t := by
        rcases Nat.eq_zero_or_pos i with e | e
        · omega
        · have := (h.at_ hst (i := i - 1)).1 (ht.low (i - 1) (by omega)); omega
      obtain ⟨e1, e2⟩ := div_eq ht.lt (show t = s * m + i by omega)
      refine ⟨e2, fun _ => by rw [← e1], fun e => ?_⟩
      rw [e] at e2
      omega
    · have hi0 : i = 0 := by
        rcases Nat.eq_zero_or_pos i with e | e
        · exact e
        · exact absurd ⟨0, hm, ht.low 0 e⟩ hs
      by_cases e : t % m = 0
      · exact ⟨by omega, fun h => absurd e h, fun _ => hs⟩
      · exfalso
        have hst : t / m * m < t := by omega
        refine hno (ps (t / m)) ⟨(h.slb hm _).2 ⟨_, rfl, hst⟩, t % m, hmod, ?_⟩
        cases hu : U (ps (t / m)) (t % m) with
        | false => rfl
        | true => have := (h.at_ hst).1 hu; omega
  obtain ⟨e1, e2, e3⟩ := key
  refine ⟨e1, ⟨fun q j => ?_, fun a b ha hb hab => ?_⟩, e2, e3⟩
  · rw [ht.now]
    by_cases e : q = p ∧ j = i
    · obtain ⟨rfl, rfl⟩ := e
      rw [setU_same]
      refine ⟨fun _ => ⟨t / m, (put_at _ _ _).symm, ht.lt, by omega⟩, fun _ => rfl⟩
    · rw [setU_ne U true e, h.used]
      constructor
      · rintro ⟨s, rfl, hj, hl⟩
        by_cases es : s = t / m
        · subst es
          refine ⟨t / m, ?_, hj, by omega⟩
          rw [put_at]; exact (e2 (by omega)).symm
        · exact ⟨s, (put_ne _ es).symm, hj, by omega⟩
      · rintro ⟨s, rfl, hj, hl⟩
        by_cases es : s = t / m
        · subst es
          rw [put_at] at e ⊢
          have hji : j ≠ i := fun h => e ⟨rfl, h⟩
          have hl2 : t / m * m + j < t := by omega
          exact ⟨t / m, e2 (by omega), hj, hl2⟩
        · rw [put_ne _ es]
          refine ⟨s, rfl, hj, ?_⟩
          have h1 : s ≤ t / m := by rw [Nat.le_div_iff_mul_le hm]; omega
          have h2 : (s + 1) * m ≤ t / m * m := Nat.mul_le_mul_right m (by omega)
          rw [Nat.add_mul] at h2
          omega
  · have hla : a ≤ t / m := by rw [Nat.le_div_iff_mul_le hm]; omega
    have hlb : b ≤ t / m := by rw [Nat.le_div_iff_mul_le hm]; omega
    have old : ∀ s, s < t / m → s * m < t := fun s hs => by
      have := Nat.mul_le_mul_right m (show s + 1 ≤ t / m by omega)
      rw [Nat.add_mul] at this
      omega
    have fresh : ∀ s, s < t / m → p = ps s → False := fun s hs hp => by
      by_cases e : t % m = 0
      · exact e3 e ((h.slb hm p).2 ⟨s, hp, old s hs⟩)
      · have := h.one s (t / m) (old s hs) (by omega) (by rw [← hp]; exact e2 e)
        omega
    by_cases ea : a = t / m
    · by_cases eb : b = t / m
      · omega
      · rw [ea, put_at, put_ne _ eb] at hab
        exact (fresh b (by omega) hab).elim
    · by_cases eb : b = t / m
      · rw [eb, put_at, put_ne _ ea] at hab
        exact (fresh a (by omega) hab.symm).elim
      · rw [put_ne _ ea, put_ne _ eb] at hab
        exact h.one a b (old a (by omega)) (old b (by omega)) hab

/-- Where a place begins; no two places begin at the same address. -/
def place (sz p i : Nat) : Nat := p * 1024 + 64 + i * sz
theorem place_in {sz m p i : Nat} (hsz : 64 + m * sz ≤ 1024) (hi : i < m) : i * sz + sz ≤ m * sz ∧ place sz p i + sz ≤ p * 1024 + 1024 := by
  have := Nat.mul_le_mul_right sz (show i + 1 ≤ m by omega)
  rw [Nat.add_mul, Nat.one_mul] at this
  unfold place
  omega
theorem place_one {sz m p i q j : Nat} (h0 : 0 < sz) (hsz : 64 + m * sz ≤ 1024) (hi : i < m) (hj : j < m) (h : place sz p i = place sz q j) : p = q ∧ i = j := by
  have h1 := (place_in (p := p) hsz hi).1
  have h2 := (place_in (p := q) hsz hj).1
  unfold place at h
  have e : p = q := by omega
  subst e
  exact ⟨rfl, Nat.eq_of_mul_eq_mul_right h0 (by omega)⟩
end Go.Proofs.YtdmnemgooagehaaGreatDoor

namespace Go.Proofs.YtdmnemgooagehaaGreatDoor

/-- The numbers below n that are so, rising. -/
def ones (f : Nat → Bool) (n : Nat) : List Nat := (List.range n).filter f
theorem ones_mem {f : Nat → Bool} {n i : Nat} : i ∈ ones f n ↔ i < n ∧ f i = true := by simp [ones]
theorem ones_nodup (f : Nat → Bool) (n : Nat) : (ones f n).Nodup := List.Pairwise.filter _ List.nodup_range
theorem ones_up (f : Nat → Bool) (n : Nat) : (ones f n).Pairwise (· < ·) := List.Pairwise.filter _ List.pairwise_lt_range
theorem ones_len (f : Nat → Bool) : ∀ n, (ones f n).length = cnt f n
  | 0 => rfl
  | n + 1 => by
    have ih := ones_len f n
    unfold ones at *
    rw [List.range_succ, List.filter_append, List.length_append, ih]
    show _ = cnt f n + (f n).toNat
    cases h : f n <;> simp [h]
theorem nodup_map {f : Nat → Nat} : ∀ {l : List Nat}, l.Nodup → (∀ a, a ∈ l → ∀ b, b ∈ l → f a = f b → a = b) → (l.map f).Nodup
  | [], _, _ => List.nodup_nil
  | x :: r, hn, hi => by
    rw [List.nodup_cons] at hn
    rw [List.map_cons, List.nodup_cons]
    refine ⟨fun h => ?_, nodup_map hn.2 (fun a ha b hb => hi a (by simp [ha]) b (by simp [hb]))⟩
    obtain ⟨y, hy, e⟩ := List.mem_map.1 h
    have := hi y (by simp [hy]) x (by simp) e
    subst this
    exact hn.1 hy
theorem nodup_at {l : List Nat} (hn : l.Nodup) {a b : Nat} (ha : a < l.length) (hb : b < l.length) (e : l[a] = l[b]) : a = b := by
  have h := List.pairwise_iff_getElem.1 hn
  rcases Nat.lt_trichotomy a b with h1 | h1 | h1
  · exact absurd e (h a b ha hb h1)
  · exact h1
  · exact absurd e.symm (h b a hb ha h1)
/-- The pages that are slabs, of n pages. -/
def pagesOf (U : Pls) (m n : Nat) : List Nat := ones (fun p => decide (0 < cnt (U p) m)) n
theorem pagesOf_mem {U : Pls} {m n p : Nat} : p ∈ pagesOf U m n ↔ p < n ∧ Slb U m p := by
  unfold pagesOf
  rw [ones_mem, slb_cnt]
  simp
/-- Where used places begin, rising. -/
def usedOf (U : Pls) (sz m n : Nat) : List Nat := (pagesOf U m n).flatMap fun p => (ones (U p) m).map (place sz p)
theorem usedOf_mem {U : Pls} {sz m n x : Nat} : x ∈ usedOf U sz m n ↔ ∃ p i, p < n ∧ i < m ∧ U p i = true ∧ x = place sz p i := by
  unfold usedOf
  rw [List.mem_flatMap]
  constructor
  · rintro ⟨p, hp, hx⟩
    obtain ⟨i, hi, rfl⟩ := List.mem_map.1 hx
    obtain ⟨h1, h2⟩ := ones_mem.1 hi
    exact ⟨p, i, (pagesOf_mem.1 hp).1, h1, h2, rfl⟩
  · rintro ⟨p, i, hp, hi, hu, rfl⟩
    exact ⟨p, pagesOf_mem.2 ⟨hp, i, hi, hu⟩, List.mem_map.2 ⟨i, ones_mem.2 ⟨hi, hu⟩, rfl⟩⟩
theorem usedOf_up {U : Pls} {sz m n : Nat} (h0 : 0 < sz) (hsz : 64 + m * sz ≤ 1024) : (usedOf U sz m n).Pairwise (· < ·) := by
  unfold usedOf
  rw [List.pairwise_flatMap]
  refine ⟨fun p _ => ?_, ?_⟩
  · rw [List.pairwise_map]
    refine (ones_up (U p) m).imp (fun {a b} hab => ?_)
    have := Nat.mul_lt_mul_of_pos_right hab h0
    unfold place; omega
  · refine (ones_up _ n).imp (fun {p q} hpq x hx y hy => ?_)
    obtain ⟨i, hi, rfl⟩ := List.mem_map.1 hx
    obtain ⟨j, _, rfl⟩ := List.mem_map.1 hy
    have := (place_in (p := p) hsz (ones_mem.1 hi).1).2
    have hq : p * 1024 + 1024 ≤ q * 1024 := by omega
    unfold place at *
    omega
theorem usedOf_nodup {U : Pls} {sz m n : Nat} (h0 : 0 < sz) (hsz : 64 + m * sz ≤ 1024) : (usedOf U sz m n).Nodup := (usedOf_up h0 hsz).imp (fun h => by omega)

/-- So many slabs hold so many places. -/
theorem Row.pages {m t n : Nat} {ps : Nat → Nat} {U : Pls} (h : Row m t ps U) (hm : 0 < m) (hp : ∀ s, s * m < t → ps s < n) : (pagesOf U m n).length = (t + m - 1) / m := by
  have hc : ∀ s, s < (t + m - 1) / m ↔ s * m < t := fun s => by
    rw [Nat.lt_div_iff_mul_lt hm]; omega
  have hP : (pagesOf U m n).Perm ((List.range ((t + m - 1) / m)).map ps) := by
    refine (List.perm_ext_iff_of_nodup (ones_nodup _ _) ?_).2 (fun p => ?_)
    · refine nodup_map List.nodup_range ?_
      intro a ha b hb hab
      exact h.one a b ((hc a).1 (List.mem_range.1 ha)) ((hc b).1 (List.mem_range.1 hb)) hab
    · show p ∈ pagesOf U m n ↔ _
      rw [pagesOf_mem, h.slb hm, List.mem_map]
      constructor
      · rintro ⟨_, s, rfl, hs⟩
        exact ⟨s, List.mem_range.2 ((hc s).2 hs), rfl⟩
      · rintro ⟨s, hs, rfl⟩
        have := (hc s).1 (List.mem_range.1 hs)
        exact ⟨hp s this, s, rfl, this⟩
  rw [hP.length_eq]; simp
theorem Row.count {m t n sz : Nat} {ps : Nat → Nat} {U : Pls} (h : Row m t ps U) (hm : 0 < m) (h0 : 0 < sz) (hsz : 64 + m * sz ≤ 1024) (hp : ∀ s, s * m < t → ps s < n) : (usedOf U sz m n).length = t := by
  have hdm : ∀ x, x / m * m + x % m = x := fun x => by rw [Nat.mul_comm]; exact Nat.div_add_mod x m
  have hP : (usedOf U sz m n).Perm ((List.range t).map fun x => place sz (ps (x / m)) (x % m)) := by
    refine (List.perm_ext_iff_of_nodup (usedOf_nodup h0 hsz) ?_).2 (fun y => ?_)
    · refine nodup_map List.nodup_range ?_
      intro a ha b hb hab
      have ha := List.mem_range.1 ha
      have hb := List.mem_range.1 hb
      have da := hdm a
      have db := hdm b
      obtain ⟨e1, e2⟩ := place_one h0 hsz (Nat.mod_lt a hm) (Nat.mod_lt b hm) hab
      have e3 := h.one (a / m) (b / m) (by omega) (by omega) e1
      rw [e3, e2] at da
      omega
    · rw [usedOf_mem, List.mem_map]
      constructor
      · rintro ⟨p, i, _, hi, hu, rfl⟩
        obtain ⟨s, rfl, _, hl⟩ := (h.used p i).1 hu
        refine ⟨s * m + i, List.mem_range.2 hl, ?_⟩
        obtain ⟨e1, e2⟩ := div_eq hi (rfl : s * m + i = s * m + i)
        rw [← e1, ← e2]
      · rintro ⟨x, hx, rfl⟩
        have hx := List.mem_range.1 hx
        have dx := hdm x
        exact ⟨ps (x / m), x % m, hp _ (by omega), Nat.mod_lt x hm, (h.used _ _).2 ⟨x / m, rfl, Nat.mod_lt x hm, by omega⟩, rfl⟩
  rw [hP.length_eq]; simp

/-- A place that is given back. -/
structure Given (U U' : Pls) (m p i : Nat) : Prop where
  lt : i < m
  used : U p i = true
  now : U' = setU U p i false
theorem Given.mem {U U' : Pls} {m p i sz n x : Nat} (h : Given U U' m p i) (h0 : 0 < sz) (hsz : 64 + m * sz ≤ 1024) : x ∈ usedOf U' sz m n ↔ x ∈ usedOf U sz m n ∧ x ≠ place sz p i := by
  rw [usedOf_mem, usedOf_mem, h.now]
  constructor
  · rintro ⟨q, j, hq, hj, hu, rfl⟩
    have hne : ¬ (q = p ∧ j = i) := by
      rintro ⟨rfl, rfl⟩
      rw [setU_same] at hu; cases hu
    rw [setU_ne U false hne] at hu
    exact ⟨⟨q, j, hq, hj, hu, rfl⟩, fun e => hne (place_one h0 hsz hj h.lt e)⟩
  · rintro ⟨⟨q, j, hq, hj, hu, rfl⟩, hne⟩
    refine ⟨q, j, hq, hj, ?_, rfl⟩
    rw [setU_ne U false (fun e => hne (by rw [e.1, e.2]))]
    exact hu
/-- All that were used are given back, in a row that begins somewhere and goes round. -/
theorem round_one {t f a b : Nat} (ha : a < t) (hb : b < t) (h : (a + f) % t = (b + f) % t) : a = b := by
  have h1 := Nat.div_add_mod (a + f) t
  have h2 := Nat.div_add_mod (b + f) t
  rw [h] at h1
  rcases Nat.lt_trichotomy ((a + f) / t) ((b + f) / t) with hl | hl | hl
  · have := Nat.mul_le_mul_left t (show (a + f) / t + 1 ≤ (b + f) / t by omega)
    rw [Nat.mul_add] at this
    omega
  · rw [hl] at h1; omega
  · have := Nat.mul_le_mul_left t (show (b + f) / t + 1 ≤ (a + f) / t by omega)
    rw [Nat.mul_add] at this
    omega
/-- What is still used when k of them were given back. -/
def Still (u : List Nat) (f k x : Nat) : Prop := x ∈ u ∧ ∀ a, a < k → u[(a + f) % u.length]? ≠ some x
theorem still_next {u : List Nat} {f k : Nat} (hn : u.Nodup) (hk : k < u.length) : ∃ x, u[(k + f) % u.length]? = some x ∧ Still u f k x ∧ ∀ y, Still u f (k + 1) y ↔ Still u f k y ∧ y ≠ x := by
  have hlt : (k + f) % u.length < u.length := Nat.mod_lt _ (by omega)
  refine ⟨u[(k + f) % u.length], List.getElem?_eq_getElem hlt, ⟨List.getElem_mem hlt, fun a ha e => ?_⟩, fun y => ⟨fun h => ⟨⟨h.1, fun a ha => h.2 a (by omega)⟩, fun e => ?_⟩, fun h => ⟨h.1.1, fun a ha e => ?_⟩⟩⟩
  · obtain ⟨h1, h2⟩ := List.getElem?_eq_some_iff.1 e
    have := nodup_at hn h1 hlt h2
    have := round_one (by omega) hk this
    omega
  · exact h.2 k (by omega) (by rw [e]; exact List.getElem?_eq_getElem hlt)
  · by_cases ea : a = k
    · subst ea
      rw [List.getElem?_eq_getElem hlt] at e
      exact h.2 (Option.some.inj e).symm
    · exact h.1.2 a (by omega) e
theorem still_end {u : List Nat} {f x : Nat} : ¬ Still u f u.length x := by
  rintro ⟨hx, hno⟩
  obtain ⟨i, hi, rfl⟩ := List.getElem_of_mem hx
  -- the number a with (a + f) % t = i
  have hpos : 0 < u.length := by omega
  refine hno ((i + (u.length - f % u.length)) % u.length) (Nat.mod_lt _ hpos) ?_
  have hf := Nat.mod_lt f hpos
  have e : ((i + (u.length - f % u.length)) % u.length + f) % u.length = i := by
    rw [Nat.mod_add_mod]
    have h2 := Nat.div_add_mod f u.length
    have : i + (u.length - f % u.length) + f = i + u.length * (f / u.length + 1) := by
      rw [Nat.mul_add]; omega
    rw [this, Nat.add_mul_mod_self_left, Nat.mod_eq_of_lt hi]
  rw [e]
  exact List.getElem?_eq_getElem hi
end Go.Proofs.YtdmnemgooagehaaGreatDoor

namespace Go.Proofs.YtdmnemgooagehaaGreatDoor
open Go.Maps

/-- The address of a page. -/
def pag (p : Nat) : Int := ((p * 1024 : Nat) : Int)
theorem pag_one {p q : Nat} (h : pag p = pag q) : p = q := by unfold pag at h; omega
structure Says (D : DataW Unit) (S : Nat → Prop) (sb : Nat → Nat) : Prop where
  key : ∀ a : Int, Maps.has D (.int .i64 a) = true ↔ ∃ p, S p ∧ a = pag p
  val : ∀ p, S p → ∀ z, D.atKey (.int .i64 (pag p)) z = .lit (.int .i64 (sb p : Int))
theorem Says.non {D : DataW Unit} {S : Nat → Prop} {sb : Nat → Nat} (h : Says D S sb) {a : Int} (ha : ∀ p, S p → a ≠ pag p) (z : DataW Unit) : D.atKey (.int .i64 a) z = z := by
  refine atKey_of_not_has ?_ z
  cases e : Maps.has D (.int .i64 a) with
  | false => rfl
  | true =>
    obtain ⟨p, hp, e2⟩ := (h.key a).1 e
    exact absurd e2 (ha p hp)
/-- What a look-up finds: the block of the slab that begins there, or nil. -/
theorem Says.look {D : DataW Unit} {S : Nat → Prop} {sb : Nat → Nat} (h : Says D S sb) {a : Int} {s : Option Nat} (hs : match s with | none => D.atKey (.int .i64 a) .nil = .nil | some s => D.atKey (.int .i64 a) .nil = .lit (.int .i64 (s : Int))) :
    (s = none ∧ ∀ p, S p → a ≠ pag p) ∨ ∃ p, S p ∧ a = pag p ∧ s = some (sb p) := by
  by_cases e : ∃ p, S p ∧ a = pag p
  · obtain ⟨p, hp, rfl⟩ := e
    right
    refine ⟨p, hp, rfl, ?_⟩
    have hv := h.val p hp .nil
    cases s with
    | none => rw [hv] at hs; cases hs
    | some b =>
      rw [hv] at hs
      have : (sb p : Int) = (b : Int) := by simpa using hs
      rw [Option.some.injEq]; omega
  · left
    have hno : ∀ p, S p → a ≠ pag p := fun p hp e2 => e ⟨p, hp, e2⟩
    refine ⟨?_, hno⟩
    have hv := h.non hno .nil
    cases s with
    | none => rfl
    | some b => rw [hv] at hs; cases hs
theorem Says.start : Says (.map []) (fun _ => False) (fun _ => 0) := ⟨fun a => by simp [Maps.has_eq], fun p h => h.elim⟩
theorem Says.congr {D : DataW Unit} {S S' : Nat → Prop} {sb sb' : Nat → Nat} (h : Says D S sb) (hS : ∀ p, S' p ↔ S p) (hb : ∀ p, S p → sb' p = sb p) : Says D S' sb' :=
  ⟨fun a => (h.key a).trans ⟨fun ⟨p, hp, e⟩ => ⟨p, (hS p).2 hp, e⟩, fun ⟨p, hp, e⟩ => ⟨p, (hS p).1 hp, e⟩⟩, fun p hp z => by rw [hb p ((hS p).1 hp)]; exact h.val p ((hS p).1 hp) z⟩
theorem Says.put {D : DataW Unit} {S : Nat → Prop} {sb : Nat → Nat} (h : Says D S sb) (hD : IsMap D) (p b : Nat) : Says (D.put (.int .i64 (pag p)) (.lit (.int .i64 (b : Int)))) (fun q => S q ∨ q = p) (Go.Proofs.YtdmnemgooagehaaGreatDoor.put sb p b) := by
  refine ⟨fun a => ?_, fun q hq z => ?_⟩
  · by_cases e : a = pag p
    · subst e
      rw [has_put_same (k := .int .i64 (pag p)) hD trivial]
      exact ⟨fun _ => ⟨p, .inr rfl, rfl⟩, fun _ => rfl⟩
    · rw [has_put_other (by simpa using e), h.key]
      constructor
      · rintro ⟨q, hq, rfl⟩
        exact ⟨q, .inl hq, rfl⟩
      · rintro ⟨q, hq | rfl, rfl⟩
        · exact ⟨q, hq, rfl⟩
        · exact absurd rfl e
  · by_cases e : q = p
    · subst e
      rw [put_at]
      exact atKey_put_same (k := .int .i64 (pag q)) hD trivial _ _
    · rw [put_ne _ e, atKey_put_other (by
        intro e2
        have : pag q = pag p := by simpa using e2
        exact e (pag_one this))]
      rcases hq with hq | hq
      · exact h.val q hq z
      · exact absurd hq e
theorem Says.del {D : DataW Unit} {S : Nat → Prop} {sb : Nat → Nat} (h : Says D S sb) (p : Nat) : Says (D.del (.int .i64 (pag p))) (fun q => S q ∧ q ≠ p) sb := by
  refine ⟨fun a => ?_, fun q hq z => ?_⟩
  · by_cases e : a = pag p
    · subst e
      rw [has_del_same]
      constructor
      · intro h; cases h
      · rintro ⟨q, ⟨_, hne⟩, e2⟩
        exact absurd (pag_one e2).symm hne
    · rw [has_del_other (by simpa using e), h.key]
      constructor
      · rintro ⟨q, hq, rfl⟩
        exact ⟨q, ⟨hq, fun e2 => e (by rw [e2])⟩, rfl⟩
      · rintro ⟨q, hq, rfl⟩
        exact ⟨q, hq.1, rfl⟩
  · rw [atKey_del_other (by
      intro e2
      have : pag q = pag p := by simpa using e2
      exact hq.2 (pag_one this))]
    exact h.val q hq.1 z

/-- Where an address lies: in which page, and how far behind the page's head; what find asks. -/
theorem find_at {sz m : Nat} (h0 : 0 < sz) (hsz : 64 + m * sz ≤ 1024) {p i : Nat} (hi : i < m) : (pag p + 64 + (i * sz : Nat)) % 1024 = 64 + ((i * sz : Nat) : Int) ∧ (pag p + 64 + (i * sz : Nat)) - (pag p + 64 + (i * sz : Nat)) % 1024 = pag p ∧ ((i * sz : Nat) : Int) % (sz : Int) = 0 ∧ ((i * sz : Nat) : Int) / (sz : Int) = (i : Int) := by
  have h1 := (place_in (p := p) hsz hi).1
  have e1 : (pag p + 64 + (i * sz : Nat)) % 1024 = 64 + ((i * sz : Nat) : Int) := by unfold pag; omega
  refine ⟨e1, by rw [e1]; omega, ?_, ?_⟩
  · rw [Int.natCast_mul]; exact Int.mul_emod_left _ _
  · rw [Int.natCast_mul]; exact Int.mul_ediv_cancel _ (by omega)
end Go.Proofs.YtdmnemgooagehaaGreatDoor

namespace Go.Proofs.YtdmnemgooagehaaGreatDoor

/-- Slabs are used blocks of one page; places have numbers below m. -/
structure Fit (B : St) (U : Pls) (m n : Nat) : Prop where
  page : ∀ p, Slb U m p → B 0 p = .used ∧ p < n
  inn : ∀ p i, U p i = true → i < m
/-- A page that was taken is no slab of anybody who keeps to used blocks. -/
theorem Fit.new {B : St} {U : Pls} {m n p : Nat} (h : Fit B U m n) (hp : B 0 p ≠ .used) : ¬ Slb U m p := fun hs => hp (h.page p hs).1
theorem Fit.more {B B' : St} {U : Pls} {m n : Nat} (h : Fit B U m n) (hB : ∀ p, B 0 p = .used → B' 0 p = .used) : Fit B' U m n := ⟨fun p hp => ⟨hB p (h.page p hp).1, (h.page p hp).2⟩, h.inn⟩
/-- A place more, on a slab or on a page that was just taken. -/
theorem Fit.take {B : St} {U : Pls} {m n p i : Nat} (h : Fit B U m n) (hi : i < m) (hp : B 0 p = .used ∧ p < n) : Fit B (setU U p i true) m n := by
  refine ⟨fun q hq => ?_, fun q j hu => ?_⟩
  · by_cases e : q = p
    · subst e; exact hp
    · exact h.page q ((slb_other true e).1 hq)
  · by_cases e : q = p ∧ j = i
    · rw [e.2]; exact hi
    · rw [setU_ne U true e] at hu; exact h.inn q j hu
theorem slb_off {U : Pls} {m p i q : Nat} (h : Slb (setU U p i false) m q) : Slb U m q := by
  obtain ⟨j, hj, hu⟩ := h
  by_cases e : q = p ∧ j = i
  · obtain ⟨rfl, rfl⟩ := e; rw [setU_same] at hu; cases hu
  · rw [setU_ne U false e] at hu; exact ⟨j, hj, hu⟩
/-- A place less; the page may go with the last one. -/
theorem Fit.give {B B' : St} {U : Pls} {m n p i : Nat} (h : Fit B U m n) (hB : ∀ q, Slb (setU U p i false) m q → B 0 q = .used → B' 0 q = .used) : Fit B' (setU U p i false) m n := by
  refine ⟨fun q hq => ?_, fun q j hu => ?_⟩
  · have := h.page q (slb_off hq)
    exact ⟨hB q hq this.1, this.2⟩
  · by_cases e : q = p ∧ j = i
    · obtain ⟨rfl, rfl⟩ := e; rw [setU_same] at hu; cases hu
    · rw [setU_ne U false e] at hu; exact h.inn q j hu

/-- Two caches have no page in common. -/
def Apart2 (U V : Pls) (m m' : Nat) : Prop := ∀ p, ¬ (Slb U m p ∧ Slb V m' p)
theorem Apart2.symm {U V : Pls} {m m' : Nat} (h : Apart2 U V m m') : Apart2 V U m' m := fun p hp => h p ⟨hp.2, hp.1⟩
theorem Apart2.take {U V : Pls} {m m' p i : Nat} (h : Apart2 U V m m') (hp : Slb U m p ∨ ¬ Slb V m' p) : Apart2 (setU U p i true) V m m' := by
  rintro q ⟨h1, h2⟩
  by_cases e : q = p
  · subst e
    rcases hp with hp | hp
    · exact h q ⟨hp, h2⟩
    · exact hp h2
  · exact h q ⟨(slb_other true e).1 h1, h2⟩
theorem Apart2.give {U V : Pls} {m m' p i : Nat} (h : Apart2 U V m m') : Apart2 (setU U p i false) V m m' := fun q hq => h q ⟨slb_off hq.1, hq.2⟩

/-- An address lies in the head of a page, or in a place. -/
def InHead (p x : Nat) : Prop := p * 1024 ≤ x ∧ x < p * 1024 + 64
def InPlace (sz p i x : Nat) : Prop := place sz p i ≤ x ∧ x < place sz p i + sz
theorem head_head {p q x : Nat} (h1 : InHead p x) (h2 : InHead q x) : p = q := by
  obtain ⟨a1, a2⟩ := h1
  obtain ⟨b1, b2⟩ := h2
  omega
theorem place_page {sz m p i x : Nat} (hsz : 64 + m * sz ≤ 1024) (hi : i < m) (h : InPlace sz p i x) : p * 1024 + 64 ≤ x ∧ x < p * 1024 + 1024 := by
  have h1 := (place_in (p := p) hsz hi).2
  obtain ⟨a1, a2⟩ := h
  have h2 : p * 1024 + 64 ≤ place sz p i := by unfold place; exact Nat.le_add_right _ _
  clear hsz
  omega
theorem head_place {sz m p q i x : Nat} (hsz : 64 + m * sz ≤ 1024) (hi : i < m) (h1 : InHead p x) (h2 : InPlace sz q i x) : False := by
  obtain ⟨a1, a2⟩ := place_page hsz hi h2
  obtain ⟨b1, b2⟩ := h1
  clear hsz
  omega
theorem place_place {sz m sz' m' p q i j x : Nat} (hsz : 64 + m * sz ≤ 1024) (hsz' : 64 + m' * sz' ≤ 1024) (hi : i < m) (hj : j < m') (h1 : InPlace sz p i x) (h2 : InPlace sz' q j x) : p = q := by
  obtain ⟨a1, a2⟩ := place_page hsz hi h1
  obtain ⟨b1, b2⟩ := place_page hsz' hj h2
  clear hsz hsz'
  omega
theorem place_same {sz m p i j x : Nat} (hsz : 64 + m * sz ≤ 1024) (hi : i < m) (hj : j < m) (h1 : InPlace sz p i x) (h2 : InPlace sz p j x) : i = j := by
  have g1 := (place_in (p := p) hsz hi).1
  have g2 := (place_in (p := p) hsz hj).1
  unfold InPlace place at *
  rcases Nat.lt_trichotomy i j with h | h | h
  · have := Nat.mul_le_mul_right sz (show i + 1 ≤ j by omega)
    rw [Nat.add_mul, Nat.one_mul] at this
    omega
  · exact h
  · have := Nat.mul_le_mul_right sz (show j + 1 ≤ i by omega)
    rw [Nat.add_mul, Nat.one_mul] at this
    omega
end Go.Proofs.YtdmnemgooagehaaGreatDoor

namespace Go.Proofs.YtdmnemgooagehaaGreatDoor

theorem up_ext : ∀ {l l' : List Nat}, l.Pairwise (· < ·) → l'.Pairwise (· < ·) → (∀ x, x ∈ l ↔ x ∈ l') → l = l'
  | [], [], _, _, _ => rfl
  | [], y :: r, _, _, h => by have := (h y).2 (by simp); cases this
  | x :: r, [], _, _, h => by have := (h x).1 (by simp); cases this
  | x :: r, y :: r', h1, h2, h => by
    rw [List.pairwise_cons] at h1 h2
    have e : x = y := by
      rcases List.mem_cons.1 ((h x).1 (by simp)) with e | e
      · exact e
      · rcases List.mem_cons.1 ((h y).2 (by simp)) with e2 | e2
        · exact e2.symm
        · have := h1.1 y e2
          have := h2.1 x e
          omega
    subst e
    congr 1
    refine up_ext h1.2 h2.2 (fun z => ⟨fun hz => ?_, fun hz => ?_⟩)
    · rcases List.mem_cons.1 ((h z).1 (by simp [hz])) with e | e
      · have := h1.1 z hz; omega
      · exact e
    · rcases List.mem_cons.1 ((h z).2 (by simp [hz])) with e | e
      · have := h2.1 z hz; omega
      · exact e

/-- The place at which a number is put: all ahead of it are less, all from it on are greater. -/
def PutAt (l : List Nat) (x t : Nat) : Prop := t ≤ l.length ∧ (∀ j y, j < t → l[j]? = some y → y < x) ∧ ∀ j y, t ≤ j → l[j]? = some y → x < y
def insAt (l : List Nat) (x t : Nat) : List Nat := l.take t ++ x :: l.drop t
theorem insAt_mem {l : List Nat} {x t y : Nat} : y ∈ insAt l x t ↔ y ∈ l ∨ y = x := by
  have e : y ∈ l ↔ y ∈ l.take t ∨ y ∈ l.drop t := by
    conv => lhs; rw [← List.take_append_drop t l]
    exact List.mem_append
  unfold insAt
  rw [List.mem_append, List.mem_cons, e]
  constructor
  · rintro (h | rfl | h)
    · exact .inl (.inl h)
    · exact .inr rfl
    · exact .inl (.inr h)
  · rintro ((h | h) | rfl)
    · exact .inl h
    · exact .inr (.inr h)
    · exact .inr (.inl rfl)
theorem insAt_up {l : List Nat} {x t : Nat} (h : l.Pairwise (· < ·)) (ht : PutAt l x t) : (insAt l x t).Pairwise (· < ·) := by
  have h1 : ∀ y ∈ l.take t, y < x := fun y hy => by
    obtain ⟨j, hj, rfl⟩ := List.getElem_of_mem hy
    have hj' : j < t := by rw [List.length_take] at hj; omega
    exact ht.2.1 j _ hj' (by rw [← List.getElem?_eq_getElem hj, List.getElem?_take_of_lt hj'])
  have h2 : ∀ y ∈ l.drop t, x < y := fun y hy => by
    obtain ⟨j, hj, rfl⟩ := List.getElem_of_mem hy
    exact ht.2.2 (t + j) _ (by omega) (by rw [← List.getElem?_drop, List.getElem?_eq_getElem hj])
  have hs : (l.take t ++ l.drop t).Pairwise (· < ·) := by rw [List.take_append_drop]; exact h
  rw [List.pairwise_append] at hs
  unfold insAt
  rw [List.pairwise_append, List.pairwise_cons]
  refine ⟨hs.1, ⟨h2, hs.2.1⟩, fun a ha b hb => ?_⟩
  rcases List.mem_cons.1 hb with rfl | hb
  · exact h1 a ha
  · exact hs.2.2 a ha b hb
/-- Put into a rising list: the rising list of one more. -/
theorem ins_is {l l' : List Nat} {x t : Nat} (h : l.Pairwise (· < ·)) (h' : l'.Pairwise (· < ·)) (ht : PutAt l x t) (hm : ∀ y, y ∈ l' ↔ y ∈ l ∨ y = x) : insAt l x t = l' :=
  up_ext (insAt_up h ht) h' (fun y => by rw [insAt_mem, hm])
/-- Cut out of it: the rising list of one less. -/
theorem cut_is {l l' : List Nat} {x : Nat} (h : l.Pairwise (· < ·)) (h' : l'.Pairwise (· < ·)) (hm : ∀ y, y ∈ l' ↔ y ∈ l ∧ y ≠ x) : l.filter (fun y => decide (y ≠ x)) = l' :=
  up_ext (h.filter _) h' (fun y => by rw [List.mem_filter, hm]; simp)

/-- Where slabs begin. -/
def slabsOf (U : Pls) (m n : Nat) : List Nat := (pagesOf U m n).map (· * 1024)
theorem slabsOf_mem {U : Pls} {m n x : Nat} : x ∈ slabsOf U m n ↔ ∃ p, p < n ∧ Slb U m p ∧ x = p * 1024 := by
  unfold slabsOf
  rw [List.mem_map]
  exact ⟨fun ⟨p, hp, e⟩ => ⟨p, (pagesOf_mem.1 hp).1, (pagesOf_mem.1 hp).2, e.symm⟩, fun ⟨p, h1, h2, e⟩ => ⟨p, pagesOf_mem.2 ⟨h1, h2⟩, e.symm⟩⟩
theorem slabsOf_up (U : Pls) (m n : Nat) : (slabsOf U m n).Pairwise (· < ·) := by
  unfold slabsOf
  rw [List.pairwise_map]
  exact (ones_up _ n).imp (fun h => by omega)

section
variable {U : Pls} {m n sz p i : Nat}
theorem used_on (hi : i < m) (hp : p < n) (x : Nat) : x ∈ usedOf (setU U p i true) sz m n ↔ x ∈ usedOf U sz m n ∨ x = place sz p i := by
  rw [usedOf_mem, usedOf_mem]
  constructor
  · rintro ⟨q, j, hq, hj, hu, rfl⟩
    by_cases e : q = p ∧ j = i
    · right; rw [e.1, e.2]
    · rw [setU_ne U true e] at hu
      exact .inl ⟨q, j, hq, hj, hu, rfl⟩
  · rintro (⟨q, j, hq, hj, hu, rfl⟩ | rfl)
    · refine ⟨q, j, hq, hj, ?_, rfl⟩
      by_cases e : q = p ∧ j = i
      · rw [e.1, e.2, setU_same]
      · rw [setU_ne U true e]; exact hu
    · exact ⟨p, i, hp, hi, setU_same _ _ _ _, rfl⟩
theorem slabs_on (hi : i < m) (hp : p < n) (x : Nat) : x ∈ slabsOf (setU U p i true) m n ↔ x ∈ slabsOf U m n ∨ x = p * 1024 := by
  rw [slabsOf_mem, slabsOf_mem]
  constructor
  · rintro ⟨q, hq, hs, rfl⟩
    by_cases e : q = p
    · right; rw [e]
    · exact .inl ⟨q, hq, (slb_other true e).1 hs, rfl⟩
  · rintro (⟨q, hq, hs, rfl⟩ | rfl)
    · refine ⟨q, hq, ?_, rfl⟩
      by_cases e : q = p
      · rw [e]; exact slb_on hi
      · exact (slb_other true e).2 hs
    · exact ⟨p, hp, slb_on hi, rfl⟩
theorem slabs_off (hlast : ¬ Slb (setU U p i false) m p) (x : Nat) : x ∈ slabsOf (setU U p i false) m n ↔ x ∈ slabsOf U m n ∧ x ≠ p * 1024 := by
  rw [slabsOf_mem, slabsOf_mem]
  constructor
  · rintro ⟨q, hq, hs, rfl⟩
    have e : q ≠ p := fun e => hlast (by rw [e] at hs; exact hs)
    exact ⟨⟨q, hq, slb_off hs, rfl⟩, by omega⟩
  · rintro ⟨⟨q, hq, hs, rfl⟩, hne⟩
    exact ⟨q, hq, (slb_other false (fun e => hne (by rw [e]))).2 hs, rfl⟩
theorem slabs_same (hs : Slb U m p) (b : Bool) (hn : Slb (setU U p i b) m p) : slabsOf (setU U p i b) m n = slabsOf U m n := by
  refine up_ext (slabsOf_up _ _ _) (slabsOf_up _ _ _) (fun x => ?_)
  rw [slabsOf_mem, slabsOf_mem]
  constructor
  · rintro ⟨q, hq, h, rfl⟩
    by_cases e : q = p
    · exact ⟨q, hq, by rw [e]; exact hs, rfl⟩
    · exact ⟨q, hq, (slb_other b e).1 h, rfl⟩
  · rintro ⟨q, hq, h, rfl⟩
    by_cases e : q = p
    · exact ⟨q, hq, by rw [e]; exact hn, rfl⟩
    · exact ⟨q, hq, (slb_other b e).2 h, rfl⟩
/-- Whether a place is used, by the list. -/
theorem used_is (h0 : 0 < sz) (hsz : 64 + m * sz ≤ 1024) (hp : p < n) (hi : i < m) : place sz p i ∈ usedOf U sz m n ↔ U p i = true := by
  rw [usedOf_mem]
  constructor
  · rintro ⟨q, j, _, hj, hu, e⟩
    obtain ⟨rfl, rfl⟩ := place_one h0 hsz hi hj e
    exact hu
  · intro hu
    exact ⟨p, i, hp, hi, hu, rfl⟩
end
end Go.Proofs.YtdmnemgooagehaaGreatDoor

namespace Go.Proofs.YtdmnemgooagehaaGreatDoor

section
variable {U : Pls} {m n : Nat}
/-- The slabs ahead of the j-th are full. -/
def FullTo (U : Pls) (m n j : Nat) : Prop := ∀ a p, a < j → (slabsOf U m n)[a]? = some (p * 1024) → ∀ i, i < m → U p i = true
theorem slab_at {j x : Nat} (h : (slabsOf U m n)[j]? = some x) : ∃ p, x = p * 1024 ∧ p < n ∧ Slb U m p := by
  obtain ⟨p, h1, h2, e⟩ := slabsOf_mem.1 (List.mem_of_getElem? h)
  exact ⟨p, e, h1, h2⟩
theorem slab_lt {a b x y : Nat} (hab : a < b) (ha : (slabsOf U m n)[a]? = some x) (hb : (slabsOf U m n)[b]? = some y) : x < y := by
  obtain ⟨h1, rfl⟩ := List.getElem?_eq_some_iff.1 ha
  obtain ⟨h2, rfl⟩ := List.getElem?_eq_some_iff.1 hb
  exact List.pairwise_iff_getElem.1 (slabsOf_up U m n) a b h1 h2 hab
/-- Found: the lowest free place of the lowest open page. -/
theorem take_found (hF : ∀ p, Slb U m p → p < n) {j p i : Nat} (hj : (slabsOf U m n)[j]? = some (p * 1024)) (hfull : FullTo U m n j) (hi : i < m) (hfree : U p i = false) (hlow : ∀ k, k < i → U p k = true) : Taken U (setU U p i true) m p i := by
  obtain ⟨p', e, _, hs⟩ := slab_at hj
  obtain rfl : p = p' := by omega
  refine ⟨hi, hfree, hlow, rfl, .inl ⟨hs, fun q hq => ?_⟩⟩
  obtain ⟨hqs, k, hk, hkf⟩ := hq
  obtain ⟨b, hb, e2⟩ := List.getElem_of_mem (slabsOf_mem.2 ⟨q, hF q hqs, hqs, rfl⟩)
  have hb' : (slabsOf U m n)[b]? = some (q * 1024) := by rw [List.getElem?_eq_getElem hb, e2]
  rcases Nat.lt_trichotomy b j with h | h | h
  · have := hfull b q h hb' k hk
    rw [hkf] at this; cases this
  · subst h
    rw [hj] at hb'
    have := Option.some.inj hb'
    omega
  · have := slab_lt h hj hb'
    omega
/-- Not found: no page is open. -/
theorem take_none (hF : ∀ p, Slb U m p → p < n) (hfull : FullTo U m n (slabsOf U m n).length) (q : Nat) : ¬ Opened U m q := by
  rintro ⟨hqs, k, hk, hkf⟩
  obtain ⟨b, hb, e2⟩ := List.getElem_of_mem (slabsOf_mem.2 ⟨q, hF q hqs, hqs, rfl⟩)
  have := hfull b q hb (by rw [List.getElem?_eq_getElem hb, e2]) k hk
  rw [hkf] at this; cases this
/-- What is taken is told by what is used, but for a new page. -/
theorem Taken.det {U' U'' : Pls} {p i p' i' : Nat} (h : Taken U U' m p i) (h' : Taken U U'' m p' i') (hnew : (∀ q, ¬ Opened U m q) → p = p') : p = p' ∧ i = i' ∧ U' = U'' := by
  have e : p = p' := by
    rcases h.page with ⟨hs, hl⟩ | ⟨hn, _⟩
    · have ho : Opened U m p := ⟨hs, i, h.lt, h.free⟩
      rcases h'.page with ⟨hs', hl'⟩ | ⟨hn', _⟩
      · have ho' : Opened U m p' := ⟨hs', i', h'.lt, h'.free⟩
        have := hl p' ho'
        have := hl' p ho
        omega
      · exact absurd ho (hn' p)
    · exact hnew hn
  subst e
  have e2 : i = i' := by
    rcases Nat.lt_trichotomy i i' with hlt | hlt | hlt
    · have := h'.low i hlt
      rw [h.free] at this; cases this
    · exact hlt
    · have := h.low i' hlt
      rw [h'.free] at this; cases this
  subst e2
  exact ⟨rfl, rfl, by rw [h.now, h'.now]⟩
/-- Whether a page goes with the last place on it. -/
theorem last_iff {p i : Nat} : Slb (setU U p i false) m p ↔ ∃ k, k < m ∧ k ≠ i ∧ U p k = true := by
  constructor
  · rintro ⟨k, hk, hu⟩
    by_cases e : k = i
    · subst e; rw [setU_same] at hu; cases hu
    · rw [setU_ne U false (fun h => e h.2)] at hu
      exact ⟨k, hk, e, hu⟩
  · rintro ⟨k, hk, hne, hu⟩
    exact ⟨k, hk, by rw [setU_ne U false (fun h => hne h.2)]; exact hu⟩
/-- .. by the count that the program holds it against. -/
theorem last_cnt {p i : Nat} : Slb (setU U p i false) m p ↔ 0 < cnt (setU U p i false p) m := slb_cnt _ _ _
/-- A page of which all places but one are used, and that one is taken, is full; the program asks for a free one. -/
theorem full_iff {f : Nat → Bool} : cnt f m = m ↔ ∀ i, i < m → f i = true := by
  induction m with
  | zero => simp [cnt]
  | succ m ih =>
    have hle := cnt_le f m
    show cnt f m + (f m).toNat = m + 1 ↔ _
    constructor
    · intro h i hi
      have hb : (f m).toNat ≤ 1 := by cases f m <;> simp
      have h1 : cnt f m = m := by omega
      have h2 : (f m).toNat = 1 := by omega
      by_cases e : i = m
      · subst e
        cases hf : f i with
        | true => rfl
        | false => rw [hf] at h2; cases h2
      · exact ih.1 h1 i (by omega)
    · intro h
      rw [ih.2 (fun i hi => h i (by omega)), h m (by omega)]
      rfl
end
end Go.Proofs.YtdmnemgooagehaaGreatDoor

namespace Go.Proofs.YtdmnemgooagehaaGreatDoor
open Go.RowKit Go.Maps

theorem ne_cells {w : World} {x y : Nat} {cs cs' : Array Value} {t t' : TypeId} (hx : w.heap[x]? = some (.cells cs t)) (hy : w.heap[y]? = some (.cells cs' t')) (h : t ≠ t') : x ≠ y := fun e => by
  subst e
  rw [hx] at hy
  exact h (Obj.cells.inj (Option.some.inj hy)).2.1
theorem ne_map {w : World} {x y : Nat} {cs : Array Value} {t : TypeId} {P : Program} {k : TypeId} {R : Value → Option (DataW Unit × List MemPlace)} {n : Nat} {D : DataW Unit} (hx : w.heap[x]? = some (.cells cs t)) (hy : w.ownsMap P k R y n D) : x ≠ y := fun e => by
  obtain ⟨es, cl, hb, _⟩ := hy
  subst e
  rw [hx] at hb
  cases Option.some.inj hb
theorem lt_of {w : World} {x : Nat} {o : Obj} (h : w.heap[x]? = some o) : x < w.heap.size := (Array.getElem?_eq_some_iff.1 h).1

theorem Opn.other {w w' : World} {c nn cap : Nat} {a : Option Addr} {L sb bm : Nat → Nat} (h : Opn w c nn cap a L sb bm) (hc : w'.heap[c]? = w.heap[c]?) (hg : ∀ ad, a = some ad → w'.heap[ad.block]? = w.heap[ad.block]?) (hs : ∀ k, k < nn → w'.heap[sb (L k)]? = w.heap[sb (L k)]?) : Opn w' c nn cap a L sb bm := by
  rcases h with e | ⟨g, e, hH⟩
  · exact .inl e
  · refine .inr ⟨g, e, (World.cell?_of_block hc).trans hH.cell, hH.mem.other (fun x hx => ?_), hH.cg, hH.cs, hH.few⟩
    rcases hx with rfl | ⟨k, hk, rfl⟩
    · exact hg _ e
    · exact hs k hk
theorem Opn.congr {w : World} {c nn cap : Nat} {a : Option Addr} {L sb bm sb' bm' : Nat → Nat} (h : Opn w c nn cap a L sb bm) (hs : ∀ k, k < nn → sb' (L k) = sb (L k) ∧ bm' (L k) = bm (L k)) : Opn w c nn cap a L sb' bm' := by
  rcases h with e | ⟨g, e, hH⟩
  · exact .inl e
  · obtain ⟨cur, hb, h1, h2⟩ := hH.mem.body
    refine .inr ⟨g, e, hH.cell, ⟨⟨cur, hb, h1, fun k hk => by rw [(hs k hk).1]; exact h2 k hk⟩, fun k hk => by rw [(hs k hk).1, (hs k hk).2]; exact hH.mem.slab k hk, fun i j hi hj he => hH.mem.one i j hi hj (by rw [← (hs i hi).1, ← (hs j hj).1]; exact he), fun k hk => by rw [(hs k hk).1]; exact hH.mem.gap k hk, hH.mem.len, hH.mem.small⟩, hH.cg, fun k hk => by rw [(hs k hk).1]; exact hH.cs k hk, hH.few⟩

/-- The cache at block c over the allocator at block p: places of the size sz, m on a page; the pages that are slabs (S), each with its block (sb), its bits (bm, gm, ws), those that stand in the heap (O), and which places are used (U). -/
structure Ca (w : World) (c p sz m mb nm : Nat) (D : DataW Unit) (a : Option Addr) (cap nn : Nat) (L sb bm gm : Nat → Nat) (ws : Nat → List Nat) (S O : Nat → Prop) (U : Pls) : Prop where
  head : w.heap[c]? = some (.cells #[.pointer (some ⟨p, 0, none⟩), .int .i64 (sz : Int), .map (some mb), .slice a nn cap] 113)
  map : Pmap w mb nm D
  says : Says D S sb
  slab : ∀ q, S q → ∃ sp, w.heap[sb q]? = some (.cells #[.pointer (some ⟨bm q, 0, none⟩), .int .i64 ((q * 1024 : Nat) : Int), sp] 118)
  bits : ∀ q, S q → Bits w (bm q) (gm q) m (ws q)
  bit_ : ∀ q, S q → ∀ i, i < m → bit (ws q) i = U q i
  opn : Opn w c nn cap a L sb bm
  heap : Hpo L nn
  inn : ∀ q, (∃ k, k < nn ∧ L k = q) ↔ O q
  os : ∀ q, O q → S q
  oneb : ∀ q r, S q → S r → bm q = bm r → q = r
  oneg : ∀ q r, S q → S r → gm q = gm r → q = r

/-- The blocks that are its own. -/
def Ow (c mb : Nat) (a : Option Addr) (sb bm gm : Nat → Nat) (S : Nat → Prop) (x : Nat) : Prop :=
  x = c ∨ x = mb ∨ (∃ ad, a = some ad ∧ x = ad.block) ∨ ∃ q, S q ∧ (x = sb q ∨ x = bm q ∨ x = gm q)

section
variable {w w' : World} {c p sz m mb nm : Nat} {D : DataW Unit} {a : Option Addr} {cap nn : Nat} {L sb bm gm : Nat → Nat} {ws : Nat → List Nat} {S O : Nat → Prop} {U : Pls}
theorem Ca.c0 (h : Ca w c p sz m mb nm D a cap nn L sb bm gm ws S O U) : w.cell? ⟨c, 0, none⟩ = some (.pointer (some ⟨p, 0, none⟩)) := by rw [cell_of_row w c 0 _ _ _ h.head]; rfl
theorem Ca.c1 (h : Ca w c p sz m mb nm D a cap nn L sb bm gm ws S O U) : w.cell? ⟨c, 1, none⟩ = some (.int .i64 (sz : Int)) := by rw [cell_of_row w c 1 _ _ _ h.head]; rfl
theorem Ca.c2 (h : Ca w c p sz m mb nm D a cap nn L sb bm gm ws S O U) : w.cell? ⟨c, 2, none⟩ = some (.map (some mb)) := by rw [cell_of_row w c 2 _ _ _ h.head]; rfl
theorem Ca.c3 (h : Ca w c p sz m mb nm D a cap nn L sb bm gm ws S O U) : w.cell? ⟨c, 3, none⟩ = some (.slice a nn cap) := by rw [cell_of_row w c 3 _ _ _ h.head]; rfl
theorem Ca.s0 (h : Ca w c p sz m mb nm D a cap nn L sb bm gm ws S O U) {q : Nat} (hq : S q) : w.cell? ⟨sb q, 0, none⟩ = some (.pointer (some ⟨bm q, 0, none⟩)) := by
  obtain ⟨sp, hs⟩ := h.slab q hq
  rw [cell_of_row w _ 0 _ _ _ hs]; rfl
theorem Ca.s1 (h : Ca w c p sz m mb nm D a cap nn L sb bm gm ws S O U) {q : Nat} (hq : S q) : w.cell? ⟨sb q, 1, none⟩ = some (.int .i64 ((q * 1024 : Nat) : Int)) := by
  obtain ⟨sp, hs⟩ := h.slab q hq
  rw [cell_of_row w _ 1 _ _ _ hs]; rfl
theorem Ca.ones (h : Ca w c p sz m mb nm D a cap nn L sb bm gm ws S O U) {q r : Nat} (hq : S q) (hr : S r) (e : sb q = sb r) : q = r := by
  have h1 := h.s1 hq
  have h2 := h.s1 hr
  rw [e, h2] at h1
  have : ((r * 1024 : Nat) : Int) = ((q * 1024 : Nat) : Int) := by simpa using h1
  omega
theorem Ca.row (h : Ca w c p sz m mb nm D a cap nn L sb bm gm ws S O U) {ad : Addr} (e : a = some ad) : ∃ cur, w.heap[ad.block]? = some (.cells cur 115) := by
  rcases h.opn with ⟨e2, _⟩ | ⟨g, e2, hH⟩
  · rw [e2] at e; cases e
  · rw [e2] at e; cases e
    obtain ⟨cur, hb, _⟩ := hH.mem.body
    exact ⟨cur, hb⟩
theorem Ca.inS (h : Ca w c p sz m mb nm D a cap nn L sb bm gm ws S O U) {k : Nat} (hk : k < nn) : S (L k) := h.os _ ((h.inn _).1 ⟨k, hk, rfl⟩)
theorem Ca.lt (h : Ca w c p sz m mb nm D a cap nn L sb bm gm ws S O U) {x : Nat} (hx : Ow c mb a sb bm gm S x) : x < w.heap.size := by
  rcases hx with rfl | rfl | ⟨ad, e, rfl⟩ | ⟨q, hq, rfl | rfl | rfl⟩
  · exact lt_of h.head
  · exact h.map.lt
  · obtain ⟨cur, hb⟩ := h.row e
    exact lt_of hb
  · obtain ⟨sp, hs⟩ := h.slab q hq
    exact lt_of hs
  · exact (h.bits q hq).lt.1
  · exact (h.bits q hq).lt.2
/-- Other blocks may turn. -/
theorem Ca.other (h : Ca w c p sz m mb nm D a cap nn L sb bm gm ws S O U) (ho : ∀ x, Ow c mb a sb bm gm S x → w'.heap[x]? = w.heap[x]?) : Ca w' c p sz m mb nm D a cap nn L sb bm gm ws S O U := by
  refine ⟨(ho c (.inl rfl)).trans h.head, ownsMap_block h.map (ho mb (.inr (.inl rfl))), h.says, fun q hq => ?_, fun q hq => ?_, h.bit_, h.opn.other (ho c (.inl rfl)) (fun ad e => ho _ (.inr (.inr (.inl ⟨ad, e, rfl⟩)))) (fun k hk => ho _ (.inr (.inr (.inr ⟨L k, h.inS hk, .inl rfl⟩)))), h.heap, h.inn, h.os, h.oneb, h.oneg⟩
  · obtain ⟨sp, hs⟩ := h.slab q hq
    exact ⟨sp, (ho _ (.inr (.inr (.inr ⟨q, hq, .inl rfl⟩)))).trans hs⟩
  · have hB := h.bits q hq
    exact ⟨(ho _ (.inr (.inr (.inr ⟨q, hq, .inr (.inl rfl)⟩)))).trans hB.head, (ho _ (.inr (.inr (.inr ⟨q, hq, .inr (.inr rfl)⟩)))).trans hB.body, hB.unlike, hB.small, hB.ok⟩
theorem Ca.below (h : Ca w c p sz m mb nm D a cap nn L sb bm gm ws S O U) (hb : Below w.heap.size w w') : Ca w' c p sz m mb nm D a cap nn L sb bm gm ws S O U := h.other fun x hx => hb.block x (h.lt hx)
theorem Ca.drewN (h : Ca w c p sz m mb nm D a cap nn L sb bm gm ws S O U) (k : Nat) : Ca (w.drewN k) c p sz m mb nm D a cap nn L sb bm gm ws S O U := h.other fun _ _ => rfl
theorem Ca.turn {T : Nat → Prop} (h : Ca w c p sz m mb nm D a cap nn L sb bm gm ws S O U) (ht : Turn T w w') (hT : ∀ x, Ow c mb a sb bm gm S x → ¬ T x) : Ca w' c p sz m mb nm D a cap nn L sb bm gm ws S O U := h.other fun x hx => ht.block x (h.lt hx) (hT x hx)
theorem Ca.congr {sb' bm' gm' : Nat → Nat} {ws' : Nat → List Nat} {S' O' : Nat → Prop} {U' : Pls} (h : Ca w c p sz m mb nm D a cap nn L sb bm gm ws S O U) (hs : ∀ q, S q → sb' q = sb q ∧ bm' q = bm q ∧ gm' q = gm q ∧ ws' q = ws q) (hS : ∀ q, S' q ↔ S q) (hO : ∀ q, O' q ↔ O q) (hU : ∀ q, S q → ∀ i, i < m → U' q i = U q i) :
    Ca w c p sz m mb nm D a cap nn L sb' bm' gm' ws' S' O' U' := by
  refine ⟨h.head, h.map, h.says.congr hS (fun q hq => (hs q hq).1), fun q hq => ?_, fun q hq => ?_, fun q hq i hi => ?_, h.opn.congr (fun k hk => ⟨(hs _ (h.inS hk)).1, (hs _ (h.inS hk)).2.1⟩), h.heap, fun q => (h.inn q).trans (hO q).symm, fun q hq => (hS q).2 (h.os q ((hO q).1 hq)), fun q r hq hr e => ?_, fun q r hq hr e => ?_⟩
  · have hq := (hS q).1 hq
    rw [(hs q hq).1, (hs q hq).2.1]; exact h.slab q hq
  · have hq := (hS q).1 hq
    rw [(hs q hq).2.1, (hs q hq).2.2.1, (hs q hq).2.2.2]; exact h.bits q hq
  · have hq := (hS q).1 hq
    rw [(hs q hq).2.2.2, hU q hq i hi]; exact h.bit_ q hq i hi
  · have hq := (hS q).1 hq
    have hr := (hS r).1 hr
    rw [(hs q hq).2.1, (hs r hr).2.1] at e
    exact h.oneb q r hq hr e
  · have hq := (hS q).1 hq
    have hr := (hS r).1 hr
    rw [(hs q hq).2.2.1, (hs r hr).2.2.1] at e
    exact h.oneg q r hq hr e

def now {α : Type} (f : Nat → α) (q : Nat) (x : α) : Nat → α := fun r => if r = q then x else f r
theorem now_at {α : Type} (f : Nat → α) (q : Nat) (x : α) : now f q x q = x := by simp [now]
theorem now_ne {α : Type} (f : Nat → α) {q r : Nat} (x : α) (h : r ≠ q) : now f q x r = f r := by simp [now, h]

/-- A place's bit is set. -/
theorem Ca.setBit {q i : Nat} {on : Bool} {ws2 : List Nat} (h : Ca w c p sz m mb nm D a cap nn L sb bm gm ws S O U) (hq : S q) (hb : But (gm q) w w') (hB : Bits w' (bm q) (gm q) m ws2) (hw : ∀ j, j < m → bit ws2 j = if j = i then on else bit (ws q) j) :
    Ca w' c p sz m mb nm D a cap nn L sb bm gm (now ws q ws2) S O (setU U q i on) := by
  have hG := (h.bits q hq).body
  have hc : w'.heap[c]? = w.heap[c]? := hb.block c (lt_of h.head) (ne_cells h.head hG (by decide))
  have hsl : ∀ r, S r → w'.heap[sb r]? = w.heap[sb r]? := fun r hr => by
    obtain ⟨sp, hs⟩ := h.slab r hr
    exact hb.block _ (lt_of hs) (ne_cells hs hG (by decide))
  refine ⟨hc.trans h.head, ownsMap_block h.map (hb.block mb h.map.lt (ne_map hG h.map).symm), h.says, fun r hr => ?_, fun r hr => ?_, fun r hr j hj => ?_, h.opn.other hc (fun ad e => ?_) (fun k hk => hsl _ (h.inS hk)), h.heap, h.inn, h.os, h.oneb, h.oneg⟩
  · obtain ⟨sp, hs⟩ := h.slab r hr
    exact ⟨sp, (hsl r hr).trans hs⟩
  · by_cases e : r = q
    · subst e; rw [now_at]; exact hB
    · rw [now_ne _ _ e]
      exact (h.bits r hr).but hb (ne_cells (h.bits r hr).head hG (by decide)) (fun e2 => e (h.oneg r q hr hq e2))
  · by_cases e : r = q
    · subst e
      rw [now_at, hw j hj]
      by_cases ej : j = i
      · subst ej; rw [if_pos rfl, setU_same]
      · rw [if_neg ej, setU_ne _ _ (fun e => ej e.2)]; exact h.bit_ r hr j hj
    · rw [now_ne _ _ e, setU_page _ _ e]; exact h.bit_ r hr j hj
  · obtain ⟨cur, hr⟩ := h.row e
    exact hb.block _ (lt_of hr) (ne_cells hr hG (by decide))
end
end Go.Proofs.YtdmnemgooagehaaGreatDoor

namespace Go.Proofs.YtdmnemgooagehaaGreatDoor
open Go.RowKit Go.Maps

theorem wpList_lookup_none (w : World) {ops : Array Oper} {rest : List Oper} {o : Oper} {a : Act} {Q : Exit → Act → World → Prop} (hg : o.guard = none) (m x : Operand) (hop : o.op = Op.lookup 109 m x false) (b n : Nat) (D : DataW Unit)
    (hm : a.eval m = .map (some b)) (hown : Pmap w b n D) (key : Value) (kl : Lit) (hx : a.eval x = key) (hkey : keyOf Tryz.prog 3 key = some kl) (hD : D.atKey kl .nil = .nil)
    (hK : wpList Tryz.prog ops Q rest (a.put o.dst (.pointer none)) w) : wpList Tryz.prog ops Q (o :: rest) a w := by
  refine wpList_lookup_ptr w hg m x hop b n D hm hown key kl hx hkey (fun s hs => ?_)
  cases s with
  | none => exact hK
  | some s => exact absurd (hs.symm.trans hD) (by simp)
theorem wpList_lookup_some (w : World) {ops : Array Oper} {rest : List Oper} {o : Oper} {a : Act} {Q : Exit → Act → World → Prop} (hg : o.guard = none) (m x : Operand) (hop : o.op = Op.lookup 109 m x false) (b n : Nat) (D : DataW Unit)
    (hm : a.eval m = .map (some b)) (hown : Pmap w b n D) (key : Value) (kl : Lit) (hx : a.eval x = key) (hkey : keyOf Tryz.prog 3 key = some kl) (r : Nat) (hD : D.atKey kl .nil = .lit (.int .i64 (r : Int)))
    (hK : wpList Tryz.prog ops Q rest (a.put o.dst (.pointer (some ⟨r, 0, none⟩))) w) : wpList Tryz.prog ops Q (o :: rest) a w := by
  refine wpList_lookup_ptr w hg m x hop b n D hm hown key kl hx hkey (fun s hs => ?_)
  cases s with
  | none => exact absurd (hs.symm.trans hD) (by simp)
  | some s =>
    have e := hs.symm.trans hD
    simp at e
    have e2 : s = r := by omega
    subst e2
    exact hK

theorem sfind_nil (w : World) (x : Int) : Calls Tryz.prog 74 #[.pointer none, .int .i64 x] w fun e w' => e = .returned (.tuple #[.pointer none, .int .i64 0]) ∧ w' = w := by
  go_enter Tryz.func74, Tryz.ntmps74
  go_wp2
  go_ret2
  exact ⟨rfl, rfl⟩
set_option maxRecDepth 100000 in
set_option maxHeartbeats 1000000 in
theorem sfind_no (w : World) (c mb nm : Nat) (D : DataW Unit) (x r y : Int) (h2 : w.cell? ⟨c, 2, none⟩ = some (.map (some mb))) (hown : Pmap w mb nm D) (hr : x.tmod 1024 = r) (hy : x - r = y) (hy1 : -9223372036854775808 ≤ y) (hy2 : y < 9223372036854775808) (hr1 : -1024 < r) (hr2 : r < 1024) (hD : D.atKey (.int .i64 y) .nil = .nil) :
    Calls Tryz.prog 74 #[.pointer (some ⟨c, 0, none⟩), .int .i64 x] w fun e w' => e = .returned (.tuple #[.pointer none, .int .i64 0]) ∧ w' = w := by
  have hwf := wf_i64 hy1 hy2
  have HU := hid hown
  have HD := hid hD
  clear hown hD
  go_enter Tryz.func74, Tryz.ntmps74
  go_wp2_with (at_lookup; refine wpList_lookup_none _ rfl _ _ rfl mb nm D rfl HU.out _ _ rfl (keyOf_int_mk Tryz.underlying3 hwf) HD.out ?_)
  go_ret2
  exact ⟨rfl, rfl⟩
set_option maxRecDepth 100000 in
set_option maxHeartbeats 1000000 in
theorem sfind_ahead (w : World) (c mb nm s : Nat) (D : DataW Unit) (x r y : Int) (h2 : w.cell? ⟨c, 2, none⟩ = some (.map (some mb))) (hown : Pmap w mb nm D) (hr : x.tmod 1024 = r) (hy : x - r = y) (hy1 : -9223372036854775808 ≤ y) (hy2 : y < 9223372036854775808) (hr1 : -1024 < r) (hr2 : r < 64) (hD : D.atKey (.int .i64 y) .nil = .lit (.int .i64 (s : Int))) :
    Calls Tryz.prog 74 #[.pointer (some ⟨c, 0, none⟩), .int .i64 x] w fun e w' => e = .returned (.tuple #[.pointer none, .int .i64 0]) ∧ w' = w := by
  have hwf := wf_i64 hy1 hy2
  have HU := hid hown
  have HD := hid hD
  have hneg : r - 64 < 0 := by omega
  clear hown hD
  go_enter Tryz.func74, Tryz.ntmps74
  go_wp2_with (at_lookup; refine wpList_lookup_some _ rfl _ _ rfl mb nm D rfl HU.out _ _ rfl (keyOf_int_mk Tryz.underlying3 hwf) s HD.out ?_)
  go_ret2
  exact ⟨rfl, rfl⟩
set_option maxRecDepth 100000 in
set_option maxHeartbeats 1000000 in
theorem sfind_odd (w : World) (c mb nm s sz d : Nat) (D : DataW Unit) (x r y : Int) (h1 : w.cell? ⟨c, 1, none⟩ = some (.int .i64 (sz : Int))) (h2 : w.cell? ⟨c, 2, none⟩ = some (.map (some mb))) (hown : Pmap w mb nm D) (hr : x.tmod 1024 = r) (hy : x - r = y) (hy1 : -9223372036854775808 ≤ y) (hy2 : y < 9223372036854775808) (hd : r - 64 = (d : Int)) (hr2 : r < 1024) (hz : 0 < sz) (hz2 : sz ≤ 512) (ho : d % sz ≠ 0) (hD : D.atKey (.int .i64 y) .nil = .lit (.int .i64 (s : Int))) :
    Calls Tryz.prog 74 #[.pointer (some ⟨c, 0, none⟩), .int .i64 x] w fun e w' => e = .returned (.tuple #[.pointer none, .int .i64 0]) ∧ w' = w := by
  have hwf := wf_i64 hy1 hy2
  have HU := hid hown
  have HD := hid hD
  have hz0 : ((sz : Int) == 0) = false := by rw [beq_eq_false_iff_ne]; omega
  obtain ⟨u, hu⟩ : ∃ u, u = d % sz := ⟨_, rfl⟩
  have hm : (d : Int).tmod (sz : Int) = (u : Int) := by rw [Int.tmod_eq_emod_of_nonneg (by omega), hu, Int.natCast_emod]
  have hu0 : ((u : Int) != 0) = true := by rw [bne_iff_ne]; omega
  have hu1 : u < 512 := by rw [hu]; exact Nat.lt_of_lt_of_le (Nat.mod_lt _ hz) hz2
  clear hown hD ho hu
  have hdb : d < 1024 := by omega
  go_enter Tryz.func74, Tryz.ntmps74
  go_wp2_with (at_lookup; refine wpList_lookup_some _ rfl _ _ rfl mb nm D rfl HU.out _ _ rfl (keyOf_int_mk Tryz.underlying3 hwf) s HD.out ?_)
  go_ret2
  exact ⟨rfl, rfl⟩
set_option maxRecDepth 100000 in
set_option maxHeartbeats 2000000 in
theorem sfind_on (w : World) (c mb nm s sz d i b g m : Nat) (ws : List Nat) (D : DataW Unit) (x r y : Int) (h1 : w.cell? ⟨c, 1, none⟩ = some (.int .i64 (sz : Int))) (h2 : w.cell? ⟨c, 2, none⟩ = some (.map (some mb))) (hown : Pmap w mb nm D) (hr : x.tmod 1024 = r) (hy : x - r = y) (hy1 : -9223372036854775808 ≤ y) (hy2 : y < 9223372036854775808) (hd : r - 64 = (d : Int)) (hr2 : r < 1024) (hz : 0 < sz) (hz2 : sz ≤ 512) (ho : d = i * sz)
    (h3 : w.cell? ⟨s, 0, none⟩ = some (.pointer (some ⟨b, 0, none⟩))) (hB : Bits w b g m ws) (hon : getB m ws (i : Int) = true) (hD : D.atKey (.int .i64 y) .nil = .lit (.int .i64 (s : Int))) :
    Calls Tryz.prog 74 #[.pointer (some ⟨c, 0, none⟩), .int .i64 x] w fun e w' => e = .returned (.tuple #[.pointer (some ⟨s, 0, none⟩), .int .i64 (i : Int)]) ∧ ∃ k, w' = w.drewN k := by
  have hwf := wf_i64 hy1 hy2
  have HU := hid hown
  have HD := hid hD
  have HB := hid (And.intro hB hon)
  have hz0 : ((sz : Int) == 0) = false := by rw [beq_eq_false_iff_ne]; omega
  have hm : (d : Int).tmod (sz : Int) = 0 := by rw [Int.tmod_eq_emod_of_nonneg (by omega), ho, Int.natCast_mul]; exact Int.mul_emod_left _ _
  have hq : (d : Int).tdiv (sz : Int) = (i : Int) := by rw [Int.tdiv_eq_ediv_of_nonneg (by omega), ho, Int.natCast_mul]; exact Int.mul_ediv_cancel _ (by omega)
  have hdb : d < 1024 := by omega
  have hib : i < 1024 := by
    have : i * 1 ≤ i * sz := Nat.mul_le_mul_left _ (by omega)
    omega
  clear hown hD ho hB hon
  go_enter Tryz.func74, Tryz.ntmps74
  go_wp2_with (first | (at_lookup; refine wpList_lookup_some _ rfl _ _ rfl mb nm D rfl HU.out _ _ rfl (keyOf_int_mk Tryz.underlying3 hwf) s HD.out ?_) | (go_at_call 123; refine (get_any b g m ws (i : Int) _ HB.out.1).mono ?_; rw [HB.out.2]; rintro e w1 ⟨rfl, k, rfl⟩))
  go_ret2
  exact ⟨rfl, k, rfl⟩
set_option maxRecDepth 100000 in
set_option maxHeartbeats 2000000 in
theorem sfind_off (w : World) (c mb nm s sz d i b g m : Nat) (ws : List Nat) (D : DataW Unit) (x r y : Int) (h1 : w.cell? ⟨c, 1, none⟩ = some (.int .i64 (sz : Int))) (h2 : w.cell? ⟨c, 2, none⟩ = some (.map (some mb))) (hown : Pmap w mb nm D) (hr : x.tmod 1024 = r) (hy : x - r = y) (hy1 : -9223372036854775808 ≤ y) (hy2 : y < 9223372036854775808) (hd : r - 64 = (d : Int)) (hr2 : r < 1024) (hz : 0 < sz) (hz2 : sz ≤ 512) (ho : d = i * sz)
    (h3 : w.cell? ⟨s, 0, none⟩ = some (.pointer (some ⟨b, 0, none⟩))) (hB : Bits w b g m ws) (hon : getB m ws (i : Int) = false) (hD : D.atKey (.int .i64 y) .nil = .lit (.int .i64 (s : Int))) :
    Calls Tryz.prog 74 #[.pointer (some ⟨c, 0, none⟩), .int .i64 x] w fun e w' => e = .returned (.tuple #[.pointer none, .int .i64 0]) ∧ ∃ k, w' = w.drewN k := by
  have hwf := wf_i64 hy1 hy2
  have HU := hid hown
  have HD := hid hD
  have HB := hid (And.intro hB hon)
  have hz0 : ((sz : Int) == 0) = false := by rw [beq_eq_false_iff_ne]; omega
  have hm : (d : Int).tmod (sz : Int) = 0 := by rw [Int.tmod_eq_emod_of_nonneg (by omega), ho, Int.natCast_mul]; exact Int.mul_emod_left _ _
  have hq : (d : Int).tdiv (sz : Int) = (i : Int) := by rw [Int.tdiv_eq_ediv_of_nonneg (by omega), ho, Int.natCast_mul]; exact Int.mul_ediv_cancel _ (by omega)
  have hdb : d < 1024 := by omega
  have hib : i < 1024 := by
    have : i * 1 ≤ i * sz := Nat.mul_le_mul_left _ (by omega)
    omega
  clear hown hD ho hB hon
  go_enter Tryz.func74, Tryz.ntmps74
  go_wp2_with (first | (at_lookup; refine wpList_lookup_some _ rfl _ _ rfl mb nm D rfl HU.out _ _ rfl (keyOf_int_mk Tryz.underlying3 hwf) s HD.out ?_) | (go_at_call 123; refine (get_any b g m ws (i : Int) _ HB.out.1).mono ?_; rw [HB.out.2]; rintro e w1 ⟨rfl, k, rfl⟩))
  go_ret2
  exact ⟨rfl, k, rfl⟩

/-- What find answers. -/
def SFindPost (w : World) (m sz : Nat) (sb : Nat → Nat) (S : Nat → Prop) (U : Pls) (x : Int) (e : Ending) (w' : World) : Prop :=
  ((e = .returned (.tuple #[.pointer none, .int .i64 0]) ∧ ∀ q i, S q → i < m → U q i = true → x ≠ ((place sz q i : Nat) : Int)) ∨
   ∃ q i, S q ∧ i < m ∧ U q i = true ∧ x = ((place sz q i : Nat) : Int) ∧ e = .returned (.tuple #[.pointer (some ⟨sb q, 0, none⟩), .int .i64 (i : Int)])) ∧ ∃ k, w' = w.drewN k
/-- An address that is a place's: its remainder, and what is left. -/
theorem place_rem {sz m q i : Nat} (h0 : 0 < sz) (hsz : 64 + m * sz ≤ 1024) (hi : i < m) : ((place sz q i : Nat) : Int).tmod 1024 = 64 + ((i * sz : Nat) : Int) ∧ ((place sz q i : Nat) : Int) - ((place sz q i : Nat) : Int).tmod 1024 = pag q := by
  have h1 := (place_in (p := q) hsz hi).1
  have e : ((place sz q i : Nat) : Int).tmod 1024 = 64 + ((i * sz : Nat) : Int) := by
    rw [Int.tmod_eq_emod_of_nonneg (by omega)]
    unfold place
    generalize i * sz = z at *
    generalize m * sz = y at *
    omega
  refine ⟨e, ?_⟩
  rw [e]; unfold place pag; omega

theorem sfind_any {w : World} {c p sz m mb nm : Nat} {D : DataW Unit} {a : Option Addr} {cap nn : Nat} {L sb bm gm : Nat → Nat} {ws : Nat → List Nat} {S O : Nat → Prop} {U : Pls} (h : Ca w c p sz m mb nm D a cap nn L sb bm gm ws S O U) (h0 : 0 < sz) (hz : sz ≤ 512) (hsz : 64 + m * sz ≤ 1024) (x : Int) (hx1 : -9223372036854775808 ≤ x) (hx2 : x < 9223372036854775808) :
    Calls Tryz.prog 74 #[.pointer (some ⟨c, 0, none⟩), .int .i64 x] w (SFindPost w m sz sb S U x) := by
  obtain ⟨r, hr⟩ : ∃ r, x.tmod 1024 = r := ⟨_, rfl⟩
  have hrb : -1024 < r ∧ r < 1024 ∧ (0 ≤ x → 0 ≤ r ∧ r ≤ x) ∧ (x < 0 → r ≤ 0 ∧ x ≤ r) := by
    rw [← hr]
    refine ⟨Int.lt_tmod_of_pos x (by omega), Int.tmod_lt_of_pos x (by omega), fun h => ?_, fun h => ?_⟩
    · rw [Int.tmod_eq_emod_of_nonneg h]; omega
    · have e : x = -(-x) := by omega
      rw [e, Int.neg_tmod, Int.tmod_eq_emod_of_nonneg (by omega)]; omega
  obtain ⟨hr1, hr2, hr3, hr4⟩ := hrb
  obtain ⟨y, hy⟩ : ∃ y, x - r = y := ⟨_, rfl⟩
  have hyb : -9223372036854775808 ≤ y ∧ y < 9223372036854775808 := by
    by_cases hn : 0 ≤ x
    · have := hr3 hn; omega
    · have := hr4 (by omega); omega
  have key : ∀ q i, i < m → x = ((place sz q i : Nat) : Int) → r = 64 + ((i * sz : Nat) : Int) ∧ y = pag q := fun q i hi e => by
    have := place_rem (q := q) h0 hsz hi
    rw [← e, hr, hy] at this
    exact this
  by_cases hS : ∃ q, S q ∧ y = pag q
  · obtain ⟨q, hq, rfl⟩ := hS
    have hD := h.says.val q hq .nil
    by_cases h64 : r < 64
    · refine (sfind_ahead w c mb nm (sb q) D x r (pag q) h.c2 h.map hr hy hyb.1 hyb.2 hr1 h64 hD).mono ?_
      rintro e w' ⟨rfl, rfl⟩
      refine ⟨.inl ⟨rfl, fun q' i _ hi _ e => ?_⟩, 0, rfl⟩
      have := (key q' i hi e).1
      omega
    · obtain ⟨d, hd⟩ := Int.eq_ofNat_of_zero_le (show 0 ≤ r - 64 by omega)
      by_cases ho : d % sz = 0
      · have hdi : d = d / sz * sz := by have := Nat.div_add_mod d sz; rw [ho, Nat.mul_comm] at this; omega
        generalize d / sz = i at hdi
        have hxe : x = ((place sz q i : Nat) : Int) := by unfold place; rw [← hdi]; unfold pag at hy; omega
        cases hg : getB m (ws q) (i : Int)
        · refine (sfind_off w c mb nm (sb q) sz d i (bm q) (gm q) m (ws q) D x r (pag q) h.c1 h.c2 h.map hr hy hyb.1 hyb.2 hd hr2 h0 hz hdi (h.s0 hq) (h.bits q hq) hg hD).mono ?_
          rintro e w' ⟨rfl, k, rfl⟩
          refine ⟨.inl ⟨rfl, fun q' i' hq' hi' hu e => ?_⟩, k, rfl⟩
          obtain ⟨e1, e2⟩ := key q' i' hi' e
          obtain rfl := pag_one e2
          have e3 : i' * sz = i * sz := by omega
          obtain rfl := Nat.eq_of_mul_eq_mul_right h0 e3
          rw [← h.bit_ q hq' i' hi'] at hu
          unfold getB hasB at hg
          rw [decide_eq_true (by omega), Bool.true_and, Int.toNat_natCast, hu] at hg
          cases hg
        · refine (sfind_on w c mb nm (sb q) sz d i (bm q) (gm q) m (ws q) D x r (pag q) h.c1 h.c2 h.map hr hy hyb.1 hyb.2 hd hr2 h0 hz hdi (h.s0 hq) (h.bits q hq) hg hD).mono ?_
          rintro e w' ⟨rfl, k, rfl⟩
          unfold getB hasB at hg
          rw [Bool.and_eq_true, decide_eq_true_iff, Int.toNat_natCast] at hg
          have him : i < m := by omega
          exact ⟨.inr ⟨q, i, hq, him, by rw [← h.bit_ q hq i him]; exact hg.2, hxe, rfl⟩, k, rfl⟩
      · refine (sfind_odd w c mb nm (sb q) sz d D x r (pag q) h.c1 h.c2 h.map hr hy hyb.1 hyb.2 hd hr2 h0 hz ho hD).mono ?_
        rintro e w' ⟨rfl, rfl⟩
        refine ⟨.inl ⟨rfl, fun q' i _ hi _ e => ?_⟩, 0, rfl⟩
        have := (key q' i hi e).1
        have e2 : d = i * sz := by omega
        exact ho (by rw [e2]; exact Nat.mul_mod_left _ _)
  · refine (sfind_no w c mb nm D x r y h.c2 h.map hr hy hyb.1 hyb.2 hr1 hr2 (h.says.non (fun q hq e => hS ⟨q, hq, e⟩) .nil)).mono ?_
    rintro e w' ⟨rfl, rfl⟩
    exact ⟨.inl ⟨rfl, fun q i hq hi _ e => hS ⟨q, hq, (key q i hi e).2⟩⟩, 0, rfl⟩
end Go.Proofs.YtdmnemgooagehaaGreatDoor

namespace Go.Proofs.YtdmnemgooagehaaGreatDoor
open Go.RowKit Go.Maps

theorem pigeon : ∀ (N n : Nat) (f : Nat → Nat), (∀ i j, i < n → j < n → f i = f j → i = j) → (∀ i, i < n → f i < N) → n ≤ N
  | 0, n, f, _, hl => by
    rcases Nat.eq_zero_or_pos n with e | e
    · omega
    · have := hl 0 e; omega
  | N + 1, n, f, hi, hl => by
    by_cases hk : ∃ k, k < n ∧ f k = N
    · obtain ⟨k, hk, ek⟩ := hk
      have := pigeon N (n - 1) (fun i => if i = k then f (n - 1) else f i) (fun i j h1 h2 e => by
        split at e <;> split at e
        · omega
        · have := hi (n - 1) j (by omega) (by omega) e; omega
        · have := hi i (n - 1) (by omega) (by omega) e; omega
        · exact hi i j (by omega) (by omega) e) (fun i h1 => by
        split
        · rename_i h2
          have h3 := hl (n - 1) (by omega)
          have h4 : f (n - 1) ≠ N := fun e => by
            have := hi (n - 1) k (by omega) hk (by omega); omega
          omega
        · rename_i h2
          have h3 := hl i (by omega)
          have h4 : f i ≠ N := fun e => h2 (hi i k (by omega) hk (by omega))
          omega)
      omega
    · have := pigeon N n f hi (fun i h1 => by
        have h2 := hl i h1
        have h3 : f i ≠ N := fun e => hk ⟨i, h1, e⟩
        omega)
      omega

theorem bit_zero (n i : Nat) : bit (List.replicate n 0) i = false := by
  unfold bit
  rw [List.getElem?_replicate]
  split <;> simp

section
variable {w w' : World} {c p sz m mb nm : Nat} {D : DataW Unit} {a : Option Addr} {cap nn : Nat} {L sb bm gm : Nat → Nat} {ws : Nat → List Nat} {S O : Nat → Prop} {U : Pls}
theorem Ca.one (h : Ca w c p sz m mb nm D a cap nn L sb bm gm ws S O U) {i j : Nat} (hi : i < nn) (hj : j < nn) (e : L i = L j) : i = j := by
  rcases h.opn with ⟨_, e2, _⟩ | ⟨g, _, hH⟩
  · omega
  · exact hH.mem.one i j hi hj (by rw [e])
theorem Ca.few (h : Ca w c p sz m mb nm D a cap nn L sb bm gm ws S O U) {N q : Nat} (hN : ∀ r, S r → r < N) (hq : S q) (hno : ¬ O q) : nn < N := by
  have := pigeon N (nn + 1) (ext L nn q) (fun i j hi hj e => by
    have hne : ∀ k, k < nn → L k ≠ q := fun k hk e => hno ((h.inn q).1 ⟨k, hk, e⟩)
    by_cases ei : i = nn
    · by_cases ej : j = nn
      · omega
      · rw [ei, ext_l, ext_o L ej] at e
        exact absurd e.symm (hne j (by omega))
    · by_cases ej : j = nn
      · rw [ej, ext_l, ext_o L ei] at e
        exact absurd e (hne i (by omega))
      · rw [ext_o L ei, ext_o L ej] at e
        exact h.one (by omega) (by omega) e) (fun i hi => by
    by_cases ei : i = nn
    · rw [ei, ext_l]; exact hN q hq
    · rw [ext_o L ei]; exact hN _ (h.inS (by omega)))
  omega
/-- What stands first in the heap is the least page of it. -/
theorem Hpo.least {L : Nat → Nat} {n : Nat} (h : Hpo L n) : ∀ k, k < n → L 0 ≤ L k := by
  intro k
  induction k using Nat.strongRecOn with
  | ind k ih =>
    intro hk
    rcases Nat.eq_zero_or_pos k with e | e
    · rw [e]; exact Nat.le_refl _
    · have h1 := h k e hk
      have h2 := ih ((k - 1) / 2) (by omega) (by omega)
      omega

/-- The blocks that stand: those that are neither the cache's own block, nor the row, nor a slab's. -/
theorem Ca.still {T : Nat → Prop} (h : Ca w c p sz m mb nm D a cap nn L sb bm gm ws S O U) (ht : Turn T w w') (hT : ∀ x, T x → x = c ∨ (∃ ad, a = some ad ∧ x = ad.block) ∨ ∃ r, S r ∧ x = sb r) :
    w'.heap[mb]? = w.heap[mb]? ∧ ∀ q, S q → w'.heap[bm q]? = w.heap[bm q]? ∧ w'.heap[gm q]? = w.heap[gm q]? := by
  refine ⟨ht.block mb h.map.lt (fun hx => ?_), fun q hq => ⟨ht.block _ (h.bits q hq).lt.1 (fun hx => ?_), ht.block _ (h.bits q hq).lt.2 (fun hx => ?_)⟩⟩
  · rcases hT _ hx with e | ⟨ad, e, e2⟩ | ⟨r, hr, e⟩
    · exact ne_map h.head h.map e.symm
    · obtain ⟨cur, hb⟩ := h.row e
      exact ne_map hb h.map e2.symm
    · obtain ⟨sp, hs⟩ := h.slab r hr
      exact ne_map hs h.map e.symm
  · rcases hT _ hx with e | ⟨ad, e, e2⟩ | ⟨r, hr, e⟩
    · exact ne_cells (h.bits q hq).head h.head (by decide) e
    · obtain ⟨cur, hb⟩ := h.row e
      exact ne_cells (h.bits q hq).head hb (by decide) e2
    · obtain ⟨sp, hs⟩ := h.slab r hr
      exact ne_cells (h.bits q hq).head hs (by decide) e
  · rcases hT _ hx with e | ⟨ad, e, e2⟩ | ⟨r, hr, e⟩
    · exact ne_cells (h.bits q hq).body h.head (by decide) e
    · obtain ⟨cur, hb⟩ := h.row e
      exact ne_cells (h.bits q hq).body hb (by decide) e2
    · obtain ⟨sp, hs⟩ := h.slab r hr
      exact ne_cells (h.bits q hq).body hs (by decide) e
theorem Bits.blocks {b g n : Nat} {v : List Nat} (h : Bits w b g n v) (h1 : w'.heap[b]? = w.heap[b]?) (h2 : w'.heap[g]? = w.heap[g]?) : Bits w' b g n v := ⟨h1.trans h.head, h2.trans h.body, h.unlike, h.small, h.ok⟩

theorem swp_in {L : Nat → Nat} {i k r : Nat} (hi : i ≤ k) (ho : ∀ a b, a < k + 1 → b < k + 1 → L a = L b → a = b) : (∃ j, j < k ∧ swp L i k j = r) ↔ (∃ j, j < k + 1 ∧ L j = r) ∧ r ≠ L i := by
  constructor
  · rintro ⟨j, hj, e⟩
    by_cases ej : j = i
    · rw [ej, swp_l] at e
      exact ⟨⟨k, by omega, e⟩, fun e2 => by have := ho k i (by omega) (by omega) (by rw [e, e2]); omega⟩
    · rw [swp_o L ej (by omega)] at e
      exact ⟨⟨j, by omega, e⟩, fun e2 => ej (ho j i (by omega) (by omega) (by rw [e, e2]))⟩
  · rintro ⟨⟨j, hj, e⟩, hne⟩
    have hji : j ≠ i := fun e2 => hne (by rw [← e, e2])
    by_cases ej : j = k
    · exact ⟨i, by omega, by rw [swp_l, ← ej]; exact e⟩
    · exact ⟨j, by omega, by rw [swp_o L hji ej]; exact e⟩
theorem SameSet.iff {L L' : Nat → Nat} {n r : Nat} (h : SameSet L L' n) : (∃ j, j < n ∧ L' j = r) ↔ ∃ j, j < n ∧ L j = r := by
  constructor
  · rintro ⟨j, hj, e⟩
    obtain ⟨j', hj', e'⟩ := h.1 j hj
    exact ⟨j', hj', by rw [← e', e]⟩
  · rintro ⟨j, hj, e⟩
    obtain ⟨j', hj', e'⟩ := h.2 j hj
    exact ⟨j', hj', by rw [← e', e]⟩

/-- The slab at i of the heap is out of it. -/
theorem Ca.popped {g k i : Nat} {e : Ending} (h : Ca w c p sz m mb nm D (some ⟨g, 0, none⟩) cap (k + 1) L sb bm gm ws S O U) (hi : i ≤ k) (hp : HOutPost w c g cap k i L sb bm e w') :
    ∃ L', Ca w' c p sz m mb nm D (some ⟨g, 0, none⟩) cap k L' sb bm gm ws S (fun r => O r ∧ r ≠ L i) U ∧ Turn (fun x => x = c ∨ (∃ ad : Addr, some (⟨g, 0, none⟩ : Addr) = some ad ∧ x = ad.block) ∨ ∃ r, S r ∧ x = sb r) w w' := by
  obtain ⟨rfl, L', hH, hpo, hss, ht, hcs, hpx⟩ := hp
  have ht2 : Turn (fun x => x = c ∨ (∃ ad : Addr, some (⟨g, 0, none⟩ : Addr) = some ad ∧ x = ad.block) ∨ ∃ r, S r ∧ x = sb r) w w' := ht.wide (by
    rintro x (e | e | ⟨j, hj, e⟩)
    · exact .inl e
    · exact .inr (.inl ⟨_, rfl, e⟩)
    · exact .inr (.inr ⟨L j, h.inS hj, e⟩))
  obtain ⟨hmb, hbg⟩ := h.still ht2 (fun x hx => hx)
  have ho : ∀ a b, a < k + 1 → b < k + 1 → L a = L b → a = b := fun a b ha hb e => h.one ha hb e
  have hin : ∀ r, (∃ j, j < k ∧ L' j = r) ↔ O r ∧ r ≠ L i := fun r => by
    rw [hss.iff, swp_in hi ho, h.inn r]
  refine ⟨L', ⟨hcs _ h.head, ownsMap_block h.map hmb, h.says, fun q hq => ?_, fun q hq => (h.bits q hq).blocks (hbg q hq).1 (hbg q hq).2, h.bit_, .inr ⟨g, rfl, hH⟩, hpo, hin, fun q hq => h.os q hq.1, h.oneb, h.oneg⟩, ht2⟩
  by_cases e1 : q = L i
  · subst e1; exact ⟨_, hpx⟩
  · by_cases e2 : O q
    · obtain ⟨j, hj, ej⟩ := (hin q).2 ⟨e2, e1⟩
      have := hH.mem.slab j hj
      rw [ej] at this
      exact ⟨_, this⟩
    · obtain ⟨sp, hs⟩ := h.slab q hq
      refine ⟨sp, (ht.block _ (lt_of hs) ?_).trans hs⟩
      rintro (e | e | ⟨j, hj, e⟩)
      · exact ne_cells hs h.head (by decide) e
      · obtain ⟨cur, hb⟩ := h.row rfl
        exact ne_cells hs hb (by decide) e
      · exact e2 ((h.inn q).1 ⟨j, hj, (h.ones hq (h.inS hj) e).symm⟩)

theorem own_slice {a : Option Addr} {n cap x : Nat} (h : Opn w c n cap a L sb bm) (e : (Value.slice a n cap).ownBlock = some x) : ∃ ad, a = some ad ∧ x = ad.block := by
  rcases h with ⟨rfl, _⟩ | ⟨g, rfl, _⟩
  · cases e
  · exact ⟨_, rfl, by simpa [Value.ownBlock] using e.symm⟩

/-- A slab that was full is put into the heap. -/
theorem Ca.pushed {q : Nat} {e : Ending} (h : Ca w c p sz m mb nm D a cap nn L sb bm gm ws S O U) (hq : S q) (hp : HPushPost w c nn cap q a L sb bm e w') :
    ∃ g cap2 L', Ca w' c p sz m mb nm D (some ⟨g, 0, none⟩) cap2 (nn + 1) L' sb bm gm ws S (fun r => O r ∨ r = q) U ∧ (a = some ⟨g, 0, none⟩ ∨ w.heap.size ≤ g) ∧ Turn (fun x => x = c ∨ (∃ ad, a = some ad ∧ x = ad.block) ∨ ∃ r, S r ∧ x = sb r) w w' := by
  obtain ⟨rfl, g, cap2, L', hH, hpo, hss, hat, ht, hcs⟩ := hp
  have ht2 : Turn (fun x => x = c ∨ (∃ ad, a = some ad ∧ x = ad.block) ∨ ∃ r, S r ∧ x = sb r) w w' := ht.wide (by
    rintro x (e | e | e | ⟨j, hj, e⟩)
    · exact .inl e
    · exact .inr (.inr ⟨q, hq, e⟩)
    · exact .inr (.inl (own_slice h.opn e))
    · exact .inr (.inr ⟨L j, h.inS hj, e⟩))
  obtain ⟨hmb, hbg⟩ := h.still ht2 (fun x hx => hx)
  have hin : ∀ r, (∃ j, j < nn + 1 ∧ L' j = r) ↔ O r ∨ r = q := fun r => by
    rw [hss.iff, ← h.inn r]
    constructor
    · rintro ⟨j, hj, e⟩
      by_cases ej : j = nn
      · rw [ej, ext_l] at e; exact .inr e.symm
      · rw [ext_o L ej] at e; exact .inl ⟨j, by omega, e⟩
    · rintro (⟨j, hj, e⟩ | rfl)
      · exact ⟨j, by omega, by rw [ext_o L (by omega)]; exact e⟩
      · exact ⟨nn, by omega, ext_l _ _ _⟩
  refine ⟨g, cap2, L', ⟨hcs _ h.head, ownsMap_block h.map hmb, h.says, fun r hr => ?_, fun r hr => (h.bits r hr).blocks (hbg r hr).1 (hbg r hr).2, h.bit_, .inr ⟨g, rfl, hH⟩, hpo, hin, fun r hr => ?_, h.oneb, h.oneg⟩, hat, ht2⟩
  · by_cases e2 : O r ∨ r = q
    · obtain ⟨j, hj, ej⟩ := (hin r).2 e2
      have := hH.mem.slab j hj
      rw [ej] at this
      exact ⟨_, this⟩
    · obtain ⟨sp, hs⟩ := h.slab r hr
      refine ⟨sp, (ht.block _ (lt_of hs) ?_).trans hs⟩
      rintro (e | e | e | ⟨j, hj, e⟩)
      · exact ne_cells hs h.head (by decide) e
      · exact e2 (.inr (h.ones hr hq e))
      · obtain ⟨ad, e3, e4⟩ := own_slice h.opn e
        obtain ⟨cur, hb⟩ := h.row e3
        exact ne_cells hs hb (by decide) e4
      · exact e2 (.inl ((h.inn r).1 ⟨j, hj, (h.ones hr (h.inS hj) e).symm⟩))
  · rcases hr with hr | rfl
    · exact h.os r hr
    · exact hq
/-- What Push asks of a slab that doesn't stand in the heap. -/
theorem Ca.toPush {q : Nat} (h : Ca w c p sz m mb nm D a cap nn L sb bm gm ws S O U) (hq : S q) (hno : ¬ O q) {N : Nat} (hN : ∀ r, S r → r < N) (hN2 : N ≤ 1048576) :
    Calls Tryz.prog 75 #[.iface 120 (.pointer (some ⟨c, 3, none⟩)), .iface 115 (.pointer (some ⟨sb q, 0, none⟩))] w (HPushPost w c nn cap q a L sb bm) := by
  obtain ⟨sp, hs⟩ := h.slab q hq
  refine hpush_any w c nn cap q a _ L sb bm sp h.head rfl h.opn h.heap hs (ne_cells hs h.head (by decide)) (fun e => ?_) (fun e => ?_) (fun k hk e => ?_) (by have := h.few hN hq hno; omega)
  · obtain ⟨ad, e3, e4⟩ := own_slice h.opn e
    obtain ⟨cur, hb⟩ := h.row e3
    exact ne_cells hs hb (by decide) e4
  · obtain ⟨ad, e3, e4⟩ := own_slice h.opn e
    obtain ⟨cur, hb⟩ := h.row e3
    exact ne_cells h.head hb (by decide) e4
  · exact hno ((h.inn q).1 ⟨k, hk, h.ones (h.inS hk) hq e⟩)
theorem Ca.heapAt (h : Ca w c p sz m mb nm D a cap nn L sb bm gm ws S O U) {k : Nat} (hk : nn = k + 1) : ∃ g, a = some ⟨g, 0, none⟩ ∧ Hc w c g cap nn L sb bm := by
  rcases h.opn with ⟨_, e, _⟩ | h
  · omega
  · exact h

/-- A new slab stands in the map. -/
theorem Ca.mapped {q s b g n2 : Nat} (h : Ca w c p sz m mb nm D a cap nn L sb bm gm ws S O U) (hno : ¬ S q) (hs : w.heap[s]? = some (.cells #[.pointer (some ⟨b, 0, none⟩), .int .i64 ((q * 1024 : Nat) : Int), .int .i64 0] 118)) (hB : Bits w b g m (List.replicate ((m + 63) / 64) 0))
    (hU : ∀ i, i < m → U q i = false) (hb1 : ∀ r, S r → bm r ≠ b) (hg1 : ∀ r, S r → gm r ≠ g) (hm : Pmap w' mb n2 (D.put (.int .i64 (pag q)) (.lit (.int .i64 (s : Int))))) (ht : w.mapTurned w' mb) :
    Ca w' c p sz m mb n2 (D.put (.int .i64 (pag q)) (.lit (.int .i64 (s : Int)))) a cap nn L (now sb q s) (now bm q b) (now gm q g) (now ws q (List.replicate ((m + 63) / 64) 0)) (fun r => S r ∨ r = q) O U := by
  have hgr := ht.grown
  have hne : ∀ r, S r → r ≠ q := fun r hr e => hno (e ▸ hr)
  have keep : ∀ x o cs t, o = Obj.cells cs t → w.heap[x]? = some o → w'.heap[x]? = w.heap[x]? := fun x o cs t e hx => by
    subst e
    exact hgr.block x (lt_of hx) (fun e => by cases e; exact ne_map hx h.map rfl)
  refine ⟨(keep _ _ _ _ rfl h.head).trans h.head, hm, h.says.put h.map.isMap q s, fun r hr => ?_, fun r hr => ?_, fun r hr i hi => ?_, (h.opn.other (keep _ _ _ _ rfl h.head) (fun ad e => ?_) (fun k hk => ?_)).congr (fun k hk => ⟨now_ne _ _ (hne _ (h.inS hk)), now_ne _ _ (hne _ (h.inS hk))⟩), h.heap, h.inn, fun r hr => .inl (h.os r hr), fun r t hr ht e => ?_, fun r t hr ht e => ?_⟩
  · by_cases e : r = q
    · subst e
      rw [now_at, now_at]
      exact ⟨_, (keep _ _ _ _ rfl hs).trans hs⟩
    · rw [now_ne _ _ e, now_ne _ _ e]
      obtain ⟨sp, hs⟩ := h.slab r (hr.resolve_right e)
      exact ⟨sp, (keep _ _ _ _ rfl hs).trans hs⟩
  · by_cases e : r = q
    · subst e
      rw [now_at, now_at, now_at]
      exact hB.blocks (keep _ _ _ _ rfl hB.head) (keep _ _ _ _ rfl hB.body)
    · rw [now_ne _ _ e, now_ne _ _ e, now_ne _ _ e]
      have := h.bits r (hr.resolve_right e)
      exact this.blocks (keep _ _ _ _ rfl this.head) (keep _ _ _ _ rfl this.body)
  · by_cases e : r = q
    · subst e
      rw [now_at, hU i hi]
      exact bit_zero _ _
    · rw [now_ne _ _ e]; exact h.bit_ r (hr.resolve_right e) i hi
  · obtain ⟨cur, hb⟩ := h.row e
    exact keep _ _ _ _ rfl hb
  · obtain ⟨sp, hs⟩ := h.slab _ (h.inS hk)
    exact keep _ _ _ _ rfl hs
  · by_cases e1 : r = q <;> by_cases e2 : t = q
    · rw [e1, e2]
    · rw [e1, now_at, now_ne _ _ e2] at e
      exact absurd e.symm (hb1 t (ht.resolve_right e2))
    · rw [e2, now_at, now_ne _ _ e1] at e
      exact absurd e (hb1 r (hr.resolve_right e1))
    · rw [now_ne _ _ e1, now_ne _ _ e2] at e
      exact h.oneb r t (hr.resolve_right e1) (ht.resolve_right e2) e
  · by_cases e1 : r = q <;> by_cases e2 : t = q
    · rw [e1, e2]
    · rw [e1, now_at, now_ne _ _ e2] at e
      exact absurd e.symm (hg1 t (ht.resolve_right e2))
    · rw [e2, now_at, now_ne _ _ e1] at e
      exact absurd e (hg1 r (hr.resolve_right e1))
    · rw [now_ne _ _ e1, now_ne _ _ e2] at e
      exact h.oneg r t (hr.resolve_right e1) (ht.resolve_right e2) e
/-- A slab is out of the map. -/
theorem Ca.unmapped {q n2 : Nat} (h : Ca w c p sz m mb nm D a cap nn L sb bm gm ws S O U) (hno : ¬ O q) (hm : Pmap w' mb n2 (D.del (.int .i64 (pag q)))) (ht : w.mapTurned w' mb) :
    Ca w' c p sz m mb n2 (D.del (.int .i64 (pag q))) a cap nn L sb bm gm ws (fun r => S r ∧ r ≠ q) O U := by
  have hgr := ht.grown
  have keep : ∀ x o cs t, o = Obj.cells cs t → w.heap[x]? = some o → w'.heap[x]? = w.heap[x]? := fun x o cs t e hx => by
    subst e
    exact hgr.block x (lt_of hx) (fun e => by cases e; exact ne_map hx h.map rfl)
  refine ⟨(keep _ _ _ _ rfl h.head).trans h.head, hm, h.says.del q, fun r hr => ?_, fun r hr => ?_, fun r hr => h.bit_ r hr.1, h.opn.other (keep _ _ _ _ rfl h.head) (fun ad e => ?_) (fun k hk => ?_), h.heap, h.inn, fun r hr => ⟨h.os r hr, fun e => hno (e ▸ hr)⟩, fun r t hr ht e => h.oneb r t hr.1 ht.1 e, fun r t hr ht e => h.oneg r t hr.1 ht.1 e⟩
  · obtain ⟨sp, hs⟩ := h.slab r hr.1
    exact ⟨sp, (keep _ _ _ _ rfl hs).trans hs⟩
  · have := h.bits r hr.1
    exact this.blocks (keep _ _ _ _ rfl this.head) (keep _ _ _ _ rfl this.body)
  · obtain ⟨cur, hb⟩ := h.row e
    exact keep _ _ _ _ rfl hb
  · obtain ⟨sp, hs⟩ := h.slab _ (h.inS hk)
    exact keep _ _ _ _ rfl hs
end
end Go.Proofs.YtdmnemgooagehaaGreatDoor

namespace Go.Proofs.YtdmnemgooagehaaGreatDoor
open Go.RowKit Go.Maps

/-- The allocator's blocks. -/
def AB (p mm K : Nat) (bf gf : Nat → Nat) (x : Nat) : Prop := x = p ∨ x = mm ∨ ∃ k, k ≤ K ∧ (x = bf k ∨ x = gf k)
theorem Own.ab {p mm K : Nat} {bf gf : Nat → Nat} {x : Nat} (h : Own mm K gf x) : AB p mm K bf gf x := by
  rcases h with e | ⟨k, hk, e⟩
  · exact .inr (.inl e)
  · exact .inr (.inr ⟨k, hk, .inr e⟩)
theorem Good.other {w w' : World} {p mm K : Nat} {bf gf : Nat → Nat} {B : St} {ct : Nat} (h : Good w p mm K bf gf B ct) (ho : ∀ x, x < w.heap.size → AB p mm K bf gf x → w'.heap[x]? = w.heap[x]?) : Good w' p mm K bf gf B ct := ⟨h.1, h.2.1, h.2.2.other ho⟩
theorem Good.turn {T : Nat → Prop} {w w' : World} {p mm K : Nat} {bf gf : Nat → Nat} {B : St} {ct : Nat} (h : Good w p mm K bf gf B ct) (ht : Turn T w w') (hT : ∀ x, AB p mm K bf gf x → ¬ T x) : Good w' p mm K bf gf B ct := h.other fun x hx ha => ht.block x hx (hT x ha)
theorem Good.lab {w : World} {p mm K : Nat} {bf gf : Nat → Nat} {B : St} {ct : Nat} (h : Good w p mm K bf gf B ct) {x : Nat} (hx : AB p mm K bf gf x) : x < w.heap.size := by
  rcases hx with rfl | rfl | ⟨k, hk, rfl | rfl⟩
  · exact h.2.2.lp
  · exact h.2.2.lm
  · exact (h.2.2.lb k hk).1
  · exact (h.2.2.lb k hk).2
theorem Tab.turn {T : Nat → Prop} {w w' : World} (h : Tab w) (ht : Turn T w w') (h1 : ¬ T 2) : Tab w' := fun j hj => (World.cell?_of_block (ht.block 2 h.pos h1)).trans (h j hj)
theorem Turn.of_map {T : Nat → Prop} {w w' : World} {b : Nat} (h : w.mapTurned w' b) (hb : T b ∨ w.heap.size ≤ b) : Turn T w w' := Turn.of_grown h.grown (by rintro j e; cases e; exact hb)
theorem Turn.next {T T' : Nat → Prop} {a b c : World} (h : Turn T a b) (k : Turn T' b c) (hT : ∀ x, T' x → T x ∨ a.heap.size ≤ x) : Turn T a c :=
  ⟨k.os.trans h.os, k.tape.trans h.tape, k.output.trans h.output, Nat.le_trans h.size k.size, fun x hx hn => (k.block x (Nat.lt_of_lt_of_le hx h.size) (fun e => by
    rcases hT x e with e | e
    · exact hn e
    · omega)).trans (h.block x hx hn)⟩
theorem zero_addr (q : Nat) : addr 0 q = pag q := by unfold addr pag; simp

/-- What a cache turns: blocks of its own and of the allocator's lists. -/
def Tn (Z : Nat → Prop) (mm K : Nat) (gf : Nat → Nat) (x : Nat) : Prop := Z x ∨ Own mm K gf x

def AddPost (w : World) (Z : Nat → Prop) (c p sz m mm K : Nat) (bf gf : Nat → Nat) (B : St) (ct : Nat) (mb nm : Nat) (D : DataW Unit) (a : Option Addr) (cap nn : Nat) (L sb bm gm : Nat → Nat) (ws : Nat → List Nat) (S O : Nat → Prop) (U : Pls) (e : Ending) (w' : World) : Prop :=
  Turn (Tn Z mm K gf) w w' ∧
  ((e = .returned (.int .i64 4) ∧ (∀ k j, B k j ≠ .free) ∧ Ca w' c p sz m mb nm D a cap nn L sb bm gm ws S O U ∧ Good w' p mm K bf gf B (ct + 1)) ∨
   (e = .returned (.int .i64 0) ∧ ∃ q k j B' D' g cap2 L' sb' bm' gm' ws', Least B 0 k j ∧ pag q = addr k j ∧ B 0 q ≠ .used ∧ Plus B B' 0 q ∧ Good w' p mm K bf gf B' (ct + 1) ∧
      Ca w' c p sz m mb (nm + 1) D' (some ⟨g, 0, none⟩) cap2 (nn + 1) L' sb' bm' gm' ws' (fun r => S r ∨ r = q) (fun r => O r ∨ r = q) U ∧ ∀ x, Ow c mb (some ⟨g, 0, none⟩) sb' bm' gm' (fun r => S r ∨ r = q) x → Z x ∨ w.heap.size ≤ x))

set_option maxRecDepth 100000 in
set_option maxHeartbeats 2000000 in
theorem sadd_any {w : World} {Z : Nat → Prop} {c p sz m mm K : Nat} {bf gf : Nat → Nat} {B : St} {ct mb nm : Nat} {D : DataW Unit} {a : Option Addr} {cap nn : Nat} {L sb bm gm : Nat → Nat} {ws : Nat → List Nat} {S O : Nat → Prop} {U : Pls}
    (h : Ca w c p sz m mb nm D a cap nn L sb bm gm ws S O U) (hZ : ∀ x, Ow c mb a sb bm gm S x → Z x) (hG : Good w p mm K bf gf B ct) (hd : ∀ x, Z x → ¬ AB p mm K bf gf x) (hT : Tab w) (hc : ct ≤ 1000000) (hnm : nm ≤ 1000000) (hK : K ≤ 20)
    (hS : ∀ q, S q → B 0 q = .used) (hU : ∀ q i, ¬ S q → i < m → U q i = false) (hz1 : 16 ≤ sz) (hz2 : sz ≤ 512) (hm : m = 960 / sz) :
    Calls Tryz.prog 69 #[.pointer (some ⟨c, 0, none⟩)] w (AddPost w Z c p sz m mm K bf gf B ct mb nm D a cap nn L sb bm gm ws S O U) := by
  have c0 := h.c0
  have hmb : m ≤ 60 := by rw [hm]; exact Nat.le_trans (Nat.div_le_div_left hz1 (by omega)) (by omega)
  have HH := hid (And.intro h (And.intro hZ (And.intro hd (And.intro hS (And.intro hU (And.intro hm hc))))))
  have HG := hid (And.intro hG hT)
  clear hG hT hZ hd hS hU hm
  go_enter Tryz.func69, Tryz.ntmps69
  go_wp2_with fail
  refine (took_any w p mm K bf gf B ct 0 HG.out.1 HG.out.2 hc).mono ?_
  rintro e w1 ⟨at_, er, B', rfl, ht, hG1, hh⟩
  obtain ⟨_, hZ, hd, hS, hU, hm, hc⟩ := HH.out
  have hC1 : Ca w1 c p sz m mb nm D a cap nn L sb bm gm ws S O U := h.turn ht (fun x hx ho => hd x (hZ x hx) ho.ab)
  have ht1 : Turn (Tn Z mm K gf) w w1 := ht.wide (fun x hx => .inr hx)
  rcases hh with ⟨rfl, rfl, hno⟩ | ⟨rfl, o, k, i, n, ho, hoK, hl, rfl, hn, hu, hp⟩
  · rcases hno with ⟨rfl, hno⟩ | ⟨rfl, o, ho, _, hno⟩
    · omega
    · obtain rfl : o = 0 := by omega
      clear ho
      have HX := hid (And.intro ht1 (And.intro hC1 (And.intro hG1 hno)))
      clear ht hG1 ht1 hC1 hno HH HG hZ hd hS hU h c0
      go_wp2_with fail
      go_ret
      obtain ⟨ht1, hC1, hG1, hno⟩ := HX.out
      exact ⟨ht1, .inl ⟨rfl, fun k j => hno k j (Nat.zero_le _), hC1, hG1⟩⟩
  · obtain rfl : o = 0 := by omega
    clear ho
    have hpg : addr k i = ((n * 1024 : Nat) : Int) := by rw [← hn, zero_addr]; rfl
    have hnS : ¬ S n := fun hs => hu (hS n hs)
    have hnK : n < 2 ^ K := by
      have := (hG1.1.inn 0 n (by rw [(hp 0 n).2 (.inr ⟨rfl, rfl⟩)]; simp)).2
      simpa using this
    have hnK2 : n < 1048576 := Nat.lt_of_lt_of_le hnK (pow_le20 hK)
    have hSN : ∀ r, S r → r < 1048576 := fun r hr => by
      have := (HG.out.1.1.inn 0 r (by rw [hS r hr]; simp)).2
      exact Nat.lt_of_lt_of_le (by simpa using this) (pow_le20 hK)
    have c1 := hC1.c1
    have c2 := hC1.c2
    rw [hpg]
    rw [hpg] at hn
    have HX := hid (And.intro ht1 (And.intro hC1 (And.intro hG1 (And.intro hl (And.intro hn (And.intro hu (And.intro hp hpg)))))))
    clear ht hG1 ht1 hC1 hl hn hu hp hS hU hd hZ hpg h c0
    go_wp2_with fail
    refine (many_any w1 c sz c1 hz1 hz2).mono ?_
    rintro e w1' ⟨rfl, rfl⟩
    rw [← hm]
    have HM := hid hm
    clear hm
    go_wp2_with fail
    refine (newSlab_any w1' n m (by omega)).mono ?_
    rintro e w2 ⟨s, b, g, rfl, hs2, hB2, hb2, ls, lb, lg, hsb, hsg⟩
    obtain ⟨ht1, hC1, hG1, hl, hn, hu, hp, hpg⟩ := HX.out
    have hC2 := hC1.below hb2
    have c22 := hC2.c2
    have hm2 := hC2.map
    have HM2 := hid hm2
    have HY := hid (And.intro hs2 (And.intro hB2 (And.intro hb2 (And.intro ls (And.intro lb (And.intro lg (And.intro hsb hsg)))))))
    clear ht1 hC1 hG1 hl hn hu hp hs2 hB2 hb2 ls lb lg hsb hsg hm2 hC2 c1 c2 hpg
    go_wp2_with (at_mapUpdate; refine wpList_mapUpdate_in _ rfl _ _ _ 109 rfl 3 115 law3 Tryz.underlying109 ptrElem mb nm D rfl HM2.out (by unfold maxLen; omega) _ _ _ rfl rfl (keyOf_int_mk Tryz.underlying3 (wf_i64 (by omega) (by omega))) _ [] (ptrElem_mk s) ?_; intro w3 hU3 hturn3; have HU3 := hid hU3; have HT3 := hid hturn3; clear hU3 hturn3)
    obtain ⟨ht1, hC1, hG1, hl, hn, hu, hp, hpg⟩ := HX.out
    obtain ⟨hs2, hB2, hb2, ls, lb, lg, hsb, hsg⟩ := HY.out
    obtain ⟨hh0, hZ, hd, hS, hU, _, _⟩ := HH.out
    have hC2 := hC1.below hb2
    have eA : ((n : Int) * 1024) = pag n := by unfold pag; omega
    rw [eA] at HU3
    have hC3 := hC2.mapped hnS hs2 hB2 (fun i hi => hU n i hnS hi) (fun r hr e => by have := (hC1.bits r hr).lt.1; omega) (fun r hr e => by have := (hC1.bits r hr).lt.2; omega) HU3.out HT3.out
    have hpush := hC3.toPush (q := n) (.inr rfl) (fun ho => hnS (hC1.os n ho)) (N := 1048576) (fun r hr => hr.elim (hSN r) (fun e => by omega)) (Nat.le_refl _)
    rw [now_at] at hpush
    have HPu := hid hpush
    clear hpush hC2 hC3 hs2 hB2 hU hS hl hn hu hp hG1 hC1 ht1 hb2 hsb hsg hd hZ hh0 hpg eA
    go_wp2_with fail
    refine HPu.out.mono ?_
    rintro e w4 ⟨rfl, hp4⟩
    have HP4 := hid hp4
    clear hp4
    go_wp2_with fail
    go_ret
    obtain ⟨ht1, hC1, hG1, hl, hn, hu, hp, hpg⟩ := HX.out
    obtain ⟨hs2, hB2, hb2, ls, lb, lg, hsb, hsg⟩ := HY.out
    obtain ⟨hh0, hZ, hd, hS, hU, _, _⟩ := HH.out
    have hC2 := hC1.below hb2
    have hC3 := hC2.mapped hnS hs2 hB2 (fun i hi => hU n i hnS hi) (fun r hr e => by have := (hC1.bits r hr).lt.1; omega) (fun r hr e => by have := (hC1.bits r hr).lt.2; omega) HU3.out HT3.out
    obtain ⟨g4, cap4, L4, hC4, ha4, ht4⟩ := hC3.pushed (.inr rfl) (⟨rfl, HP4.out⟩ : HPushPost w3 c nn cap n a L _ _ (.returned (.tuple #[])) w4)
    have hsz1 := ht1.size
    have hsz2 := hb2.size
    have hsz3 := HT3.out.grown.size
    have hfin : ∀ r, S r → r ≠ n := fun r hr e => hnS (e ▸ hr)
    have hown : ∀ x, Ow c mb (some ⟨g4, 0, none⟩) (now sb n s) (now bm n b) (now gm n g) (fun r => S r ∨ r = n) x → Z x ∨ w1'.heap.size ≤ x := by
      rintro x (rfl | rfl | ⟨ad, e, rfl⟩ | ⟨r, hr, hx⟩)
      · exact .inl (hZ _ (.inl rfl))
      · exact .inl (hZ _ (.inr (.inl rfl)))
      · cases e
        rcases ha4 with e | e
        · exact .inl (hZ _ (.inr (.inr (.inl ⟨_, e, rfl⟩))))
        · right; show w1'.heap.size ≤ g4; omega
      · by_cases er : r = n
        · subst er
          rw [now_at, now_at, now_at] at hx
          right
          rcases hx with rfl | rfl | rfl <;> omega
        · have hr := hr.resolve_right er
          rw [now_ne _ _ er, now_ne _ _ er, now_ne _ _ er] at hx
          exact .inl (hZ _ (.inr (.inr (.inr ⟨r, hr, hx⟩))))
    have ht14 : Turn (Tn Z mm K gf) w1' w4 := by
      refine ((Turn.of_below hb2).trans (Turn.of_map HT3.out (.inl (.inl (hZ _ (.inr (.inl rfl))))))).next ht4 ?_
      rintro x (rfl | ⟨ad, e, rfl⟩ | ⟨r, hr, rfl⟩)
      · exact .inl (.inl (hZ _ (.inl rfl)))
      · exact .inl (.inl (hZ _ (.inr (.inr (.inl ⟨_, e, rfl⟩)))))
      · rcases hown _ (.inr (.inr (.inr ⟨r, hr, .inl rfl⟩))) with e | e
        · exact .inl (.inl e)
        · exact .inr e
    have hG4 : Good w4 p mm K bf gf B' (ct + 1) := by
      refine ((hG1.below hb2).turn (Turn.of_map (T := Z) HT3.out (.inl (hZ _ (.inr (.inl rfl))))) (fun x hx hz => hd x hz hx)).other fun x hx ha => ht4.block x hx ?_
      rintro (rfl | ⟨ad, e, rfl⟩ | ⟨r, hr, rfl⟩)
      · exact hd _ (hZ _ (.inl rfl)) ha
      · exact hd _ (hZ _ (.inr (.inr (.inl ⟨_, e, rfl⟩)))) ha
      · rcases hown _ (.inr (.inr (.inr ⟨r, hr, .inl rfl⟩))) with e | e
        · exact hd _ e ha
        · have := hG1.lab ha
          omega
    exact ⟨ht1.trans ht14, .inr ⟨rfl, n, k, i, B', _, g4, cap4, L4, _, _, _, _, hl, hpg.symm, hu, hp, hG4, hC4, fun x hx => (hown x hx).imp id (fun e => by omega)⟩⟩
end Go.Proofs.YtdmnemgooagehaaGreatDoor

namespace Go.Proofs.YtdmnemgooagehaaGreatDoor
open Go.RowKit Go.Maps

theorem Ca.drew {w : World} {c p sz m mb nm : Nat} {D : DataW Unit} {a : Option Addr} {cap nn : Nat} {L sb bm gm : Nat → Nat} {ws : Nat → List Nat} {S O : Nat → Prop} {U : Pls} (h : Ca w c p sz m mb nm D a cap nn L sb bm gm ws S O U) : Ca w.drew c p sz m mb nm D a cap nn L sb bm gm ws S O U := h.other fun _ _ => rfl
def DropPost (w : World) (Z : Nat → Prop) (c p sz m mm K : Nat) (bf gf : Nat → Nat) (B : St) (ct : Nat) (mb nm : Nat) (a : Option Addr) (cap q : Nat) (sb bm gm : Nat → Nat) (ws : Nat → List Nat) (S O : Nat → Prop) (U : Pls) (e : Ending) (w' : World) : Prop :=
  e = .returned (.int .i64 0) ∧ Turn (Tn Z mm K gf) w w' ∧ ∃ B' D' nn' L', Less B B' 0 q ∧ Good w' p mm K bf gf B' ct ∧ Ca w' c p sz m mb nm D' a cap nn' L' sb bm gm ws (fun r => S r ∧ r ≠ q) (fun r => O r ∧ r ≠ q) U

set_option maxRecDepth 100000 in
set_option maxHeartbeats 2000000 in
theorem sdrop_any {w : World} {Z : Nat → Prop} {c p sz m mm K : Nat} {bf gf : Nat → Nat} {B : St} {ct mb nm q : Nat} {D : DataW Unit} {a : Option Addr} {cap nn : Nat} {L sb bm gm : Nat → Nat} {ws : Nat → List Nat} {S O : Nat → Prop} {U : Pls}
    (h : Ca w c p sz m mb nm D a cap nn L sb bm gm ws S O U) (hZ : ∀ x, Ow c mb a sb bm gm S x → Z x) (hG : Good w p mm K bf gf B ct) (hd : ∀ x, Z x → ¬ AB p mm K bf gf x) (hO : O q) (hB : B 0 q = .used) (hq : q < 1048576) :
    Calls Tryz.prog 77 #[.pointer (some ⟨c, 0, none⟩), .pointer (some ⟨sb q, 0, none⟩)] w (DropPost w Z c p sz m mm K bf gf B ct mb nm a cap q sb bm gm ws S O U) := by
  obtain ⟨k, hk, ek⟩ := (h.inn q).2 hO
  obtain ⟨n, rfl⟩ : ∃ n, nn = n + 1 := ⟨nn - 1, by omega⟩
  obtain ⟨g, rfl, hH⟩ := h.heapAt rfl
  have hs := hH.mem.slab k hk
  rw [ek] at hs
  have s2 : w.cell? ⟨sb q, 2, none⟩ = some (.int .i64 (k : Int)) := by rw [cell_of_row w _ 2 _ _ _ hs]; rfl
  have hcon := hremove_any w.drew c g cap n k _ L sb bm (by omega) h.drew.head ((h.drew.heapAt rfl).elim fun g' e => by have := e.1; cases this; exact e.2) h.heap
  have HC := hid hcon
  have HH := hid (And.intro h (And.intro hZ (And.intro hG (And.intro hd (And.intro hO (And.intro hB ek))))))
  clear h hZ hG hd hO hB hs hH hcon ek
  go_enter Tryz.func77, Tryz.ntmps77
  go_wp2_with fail
  go_region_with (go_at_call 130; refine HC.out.mono ?_; rintro e w1 ⟨rfl, hp1⟩; have HP := hid hp1; clear hp1)
  obtain ⟨h, hZ, hG, hd, hO, hB, ek⟩ := HH.out
  obtain ⟨L1, hC1, ht1⟩ := h.drew.popped (i := k) (by omega) ⟨rfl, HP.out⟩
  rw [ek] at hC1
  obtain ⟨y, hy⟩ : ∃ y, y = pag q := ⟨_, rfl⟩
  have hSq := h.os q hO
  have s1 : w1.cell? ⟨sb q, 1, none⟩ = some (.int .i64 y) := by rw [hy]; exact hC1.s1 hSq
  have c2 := hC1.c2
  have hyb : 0 ≤ y ∧ y < 1073741824 := by rw [hy]; unfold pag; omega
  obtain ⟨w2, hrun, r1, r2⟩ := hC1.drew.map.drop law3 Tryz.underlying109 (keyOf_int_mk Tryz.underlying3 (wf_i64 (a := y) (by omega) (by omega))) 0
  have HX := hid (And.intro hC1 (And.intro ht1 (And.intro r1 (And.intro r2 hy))))
  clear h hZ hG hd hO hB ek hC1 ht1 r1 r2 hy hSq
  go_wp2_with fail
  go_region
  obtain ⟨h, hZ, hG, hd, hO, hB, ek⟩ := HH.out
  obtain ⟨hC1, ht1, r1, r2, hy⟩ := HX.out
  rw [hy] at r1
  have hC2 := hC1.drew.unmapped (q := q) (fun e => e.2 rfl) r1 r2
  have htw : Turn (Tn Z mm K gf) w w1 := (Turn.drew (Turn.refl _ w)).next ht1 (by
    rintro x (rfl | ⟨ad, e, rfl⟩ | ⟨r, hr, rfl⟩)
    · exact .inl (.inl (hZ _ (.inl rfl)))
    · exact .inl (.inl (hZ _ (.inr (.inr (.inl ⟨_, e, rfl⟩)))))
    · exact .inl (.inl (hZ _ (.inr (.inr (.inr ⟨r, hr, .inl rfl⟩))))))
  have ht2 : Turn (Tn Z mm K gf) w w2 := htw.drew.next (Turn.of_map (T := fun x => x = mb) r2 (.inl rfl)) (by
    rintro x rfl
    exact .inl (.inl (hZ _ (.inr (.inl rfl)))))
  have hG2 : Good w2.drew p mm K bf gf B ct := by
    have e1 : Good w1 p mm K bf gf B ct := (hG.other (w' := w.drew) (fun _ _ _ => rfl)).turn ht1 (by
      rintro x hx (rfl | ⟨ad, e, rfl⟩ | ⟨r, hr, rfl⟩)
      · exact hd _ (hZ _ (.inl rfl)) hx
      · exact hd _ (hZ _ (.inr (.inr (.inl ⟨_, e, rfl⟩)))) hx
      · exact hd _ (hZ _ (.inr (.inr (.inr ⟨r, hr, .inl rfl⟩)))) hx)
    have e2 : Good w2 p mm K bf gf B ct := (e1.other (w' := w1.drew) (fun _ _ _ => rfl)).turn (Turn.of_map (T := fun x => x = mb) r2 (.inl rfl)) (by
      rintro x hx rfl
      exact hd _ (hZ _ (.inr (.inl rfl))) hx)
    exact e2.other (fun _ _ _ => rfl)
  have s12 : w2.cell? ⟨sb q, 1, none⟩ = some (.int .i64 y) := by
    obtain ⟨sp, hs⟩ := hC1.slab q (h.os q hO)
    have : w2.heap[sb q]? = w1.drew.heap[sb q]? := r2.grown.block _ (lt_of (w := w1.drew) hs) (fun e => by cases e; exact ne_map hs hC1.map rfl)
    exact (World.cell?_of_block this).trans s1
  have c0 := hC2.c0
  have hcon := gave_any w2.drew p mm K bf gf B ct 0 q y hG2 hB (by rw [hy, zero_addr])
  have HC2 := hid hcon
  have HY := hid (And.intro hC2 (And.intro ht2 hG2))
  clear h hZ hG hd hO hB ek hC1 ht1 r1 r2 hy hC2 htw ht2 hG2 hcon s1 c2 s2
  go_wp2_with fail
  go_region_with (go_at_call 131; refine HC2.out.mono ?_; rintro e w3 ⟨B', rfl, ht3, hG3, hL⟩; have HP3 := hid (And.intro ht3 (And.intro hG3 hL)); clear ht3 hG3 hL)
  all_goals
    go_wp2_with fail
    go_ret
    obtain ⟨h, hZ, hG, hd, hO, hB, ek⟩ := HH.out
    obtain ⟨ht3, hG3, hL⟩ := HP3.out
    obtain ⟨hC2, ht2, hG2⟩ := HY.out
    have hC3 := hC2.drew.turn ht3 (fun x hx ho => by
      refine hd x (hZ x ?_) ho.ab
      rcases hx with e | e | e | ⟨r, hr, e⟩
      · exact .inl e
      · exact .inr (.inl e)
      · exact .inr (.inr (.inl e))
      · exact .inr (.inr (.inr ⟨r, hr.1, e⟩)))
    exact ⟨rfl, ht2.drew.next ht3 (fun x hx => .inl (.inr hx)), B', _, _, _, hL, hG3, hC3⟩
end Go.Proofs.YtdmnemgooagehaaGreatDoor

namespace Go.Proofs.YtdmnemgooagehaaGreatDoor
open Go.RowKit Go.Maps

section
variable {w w' : World} {c p sz m mb nm : Nat} {D : DataW Unit} {a : Option Addr} {cap nn : Nat} {L sb bm gm : Nat → Nat} {ws : Nat → List Nat} {S O : Nat → Prop} {U : Pls}
theorem Ca.setCall {q i s : Nat} {on : Bool} (h : Ca w c p sz m mb nm D a cap nn L sb bm gm ws S O U) (hq : S q) (hi : i < m) (hs : w.heap[s]? = some (.cells #[.int .i64 (i : Int)] 3)) :
    Calls Tryz.prog 67 #[.pointer (some ⟨bm q, 0, none⟩), .bool on, .slice (some ⟨s, 0, none⟩) 1 1] w fun e w' => ∃ t, e = .returned (.int .i64 t) ∧ But (gm q) w w' ∧ ∃ ws2, Ca w' c p sz m mb nm D a cap nn L sb bm gm (now ws q ws2) S O (setU U q i on) := by
  have hB := h.bits q hq
  refine (set_any (bm q) (gm q) m (ws q) on [(i : Int)] (some ⟨s, 0, none⟩) 1 w hB (.inr ⟨s, 0, rfl, ne_cells hs hB.body (by decide), lt_of hs, fun j hj => ?_⟩) (by simp)).mono ?_
  · obtain rfl : j = 0 := by simpa using hj
    rw [cell_of_row w s _ _ _ _ hs]; rfl
  · rintro e w' ⟨rfl, hB', hb⟩
    exact ⟨_, rfl, hb, _, h.setBit hq hb hB' (fun j _ => setAll_one hB.ok on i hi j)⟩
theorem Ca.first {q : Nat} (h : Ca w c p sz m mb nm D a cap nn L sb bm gm ws S O U) (hq : S q) (hT : Tab w) (hf : ∃ i, i < m ∧ U q i = false) :
    Calls Tryz.prog 70 #[.pointer (some ⟨bm q, 0, none⟩), .bool false, .int .i64 0] w fun e w' => ∃ i : Nat, e = .returned (.int .i64 (i : Int)) ∧ i < m ∧ U q i = false ∧ (∀ j, j < i → U q j = true) ∧ w' = w := by
  refine (first_any (bm q) (gm q) m (ws q) false 0 w (h.bits q hq) hT (by omega)).mono ?_
  rintro e w' ⟨r, rfl, hr, rfl⟩
  rcases hr with ⟨rfl, hn⟩ | ⟨k, rfl, _, hk, hb, hlow⟩
  · obtain ⟨i, hi, hu⟩ := hf
    exact absurd ((h.bit_ q hq i hi).trans hu) (hn i (Nat.zero_le _) hi)
  · refine ⟨k, rfl, hk, (h.bit_ q hq k hk).symm.trans hb, fun j hj => ?_, rfl⟩
    have := hlow j (Nat.zero_le _) hj
    rw [← h.bit_ q hq j (by omega)]
    cases e : bit (ws q) j
    · exact absurd e this
    · rfl
theorem Ca.fullCall {q : Nat} (h : Ca w c p sz m mb nm D a cap nn L sb bm gm ws S O U) (hq : S q) (hT : Tab w) :
    Calls Tryz.prog 71 #[.pointer (some ⟨sb q, 0, none⟩)] w fun e w' => ∃ f : Bool, e = .returned (.bool f) ∧ Hid (f = true ↔ ∀ j, j < m → U q j = true) ∧ w' = w := by
  refine (full_any w (sb q) (bm q) (gm q) m (ws q) (h.s0 hq) (h.bits q hq) hT).mono ?_
  rintro e w' ⟨f, rfl, hf, rfl⟩
  exact ⟨f, rfl, hf.out.trans ⟨fun h2 j hj => (h.bit_ q hq j hj).symm.trans (h2 j hj), fun h2 j hj => (h.bit_ q hq j hj).trans (h2 j hj)⟩, rfl⟩
end
end Go.Proofs.YtdmnemgooagehaaGreatDoor

namespace Go.Proofs.YtdmnemgooagehaaGreatDoor
open Go.RowKit Go.Maps

/-- A cache between two calls; the blocks that are its own are among Z. -/
def Sl (w : World) (Z : Nat → Prop) (c p sz m ct : Nat) (U : Pls) : Prop :=
  ∃ mb nm D a cap nn L sb bm gm ws, Ca w c p sz m mb nm D a cap nn L sb bm gm ws (Slb U m) (Opened U m) U ∧ (∀ x, Ow c mb a sb bm gm (Slb U m) x → Z x) ∧ nm ≤ ct
theorem Sl.wide {w : World} {Z Z' : Nat → Prop} {c p sz m ct ct' : Nat} {U : Pls} (h : Sl w Z c p sz m ct U) (hz : ∀ x, Z x → Z' x) (hc : ct ≤ ct') : Sl w Z' c p sz m ct' U := by
  obtain ⟨mb, nm, D, a, cap, nn, L, sb, bm, gm, ws, hC, hZ, hn⟩ := h
  exact ⟨mb, nm, D, a, cap, nn, L, sb, bm, gm, ws, hC, fun x hx => hz x (hZ x hx), by omega⟩
theorem Sl.turn {w w' : World} {T Z : Nat → Prop} {c p sz m ct : Nat} {U : Pls} (h : Sl w Z c p sz m ct U) (ht : Turn T w w') (hT : ∀ x, Z x → ¬ T x) : Sl w' Z c p sz m ct U := by
  obtain ⟨mb, nm, D, a, cap, nn, L, sb, bm, gm, ws, hC, hZ, hn⟩ := h
  exact ⟨mb, nm, D, a, cap, nn, L, sb, bm, gm, ws, hC.turn ht (fun x hx => hT x (hZ x hx)), hZ, hn⟩
theorem Sl.below {w w' : World} {Z : Nat → Prop} {c p sz m ct : Nat} {U : Pls} (h : Sl w Z c p sz m ct U) (hb : Below w.heap.size w w') : Sl w' Z c p sz m ct U := by
  obtain ⟨mb, nm, D, a, cap, nn, L, sb, bm, gm, ws, hC, hZ, hn⟩ := h
  exact ⟨mb, nm, D, a, cap, nn, L, sb, bm, gm, ws, hC.below hb, hZ, hn⟩
theorem Sl.own {w : World} {Z : Nat → Prop} {c p sz m ct : Nat} {U : Pls} (h : Sl w Z c p sz m ct U) : Sl w (fun x => Z x ∧ x < w.heap.size) c p sz m ct U := by
  obtain ⟨mb, nm, D, a, cap, nn, L, sb, bm, gm, ws, hC, hZ, hn⟩ := h
  exact ⟨mb, nm, D, a, cap, nn, L, sb, bm, gm, ws, hC, fun x hx => ⟨hZ x hx, hC.lt hx⟩, hn⟩

/-- The page of a place that was taken: a slab that was there, or the first free block. -/
def Came (B B' : St) (U : Pls) (m q : Nat) : Prop :=
  (Slb U m q ∧ B' = B) ∨ (¬ Slb U m q ∧ (∀ r, ¬ Opened U m r) ∧ B 0 q ≠ .used ∧ Plus B B' 0 q ∧ ∃ k j, Least B 0 k j ∧ pag q = addr k j)
def STook (w : World) (Z : Nat → Prop) (c p sz m mm K : Nat) (bf gf : Nat → Nat) (B : St) (ct : Nat) (U : Pls) (N : Nat) (e : Ending) (w' : World) : Prop :=
  ∃ (Z' : Nat → Prop) (B' : St), Turn (Tn Z mm K gf) w w' ∧ (∀ x, Z' x → Z x ∨ w.heap.size ≤ x) ∧ Good w' p mm K bf gf B' (ct + 1) ∧
    ((e = .returned (.tuple #[.int .i64 0, .int .i64 4]) ∧ (∀ q, ¬ Opened U m q) ∧ (∀ k j, B k j ≠ .free) ∧ B' = B ∧ Sl w' Z' c p sz m (ct + 1) U) ∨
     ∃ q i U', e = .returned (.tuple #[.int .i64 ((place sz q i : Nat) : Int), .int .i64 0]) ∧ Taken U U' m q i ∧ Sl w' Z' c p sz m (ct + 1) U' ∧ Fit B' U' m N ∧ Came B B' U m q)

/-- What is known behind the test for an open slab: one stands first. -/
structure Mid (w w1 : World) (Z : Nat → Prop) (c p sz m mm K : Nat) (bf gf : Nat → Nat) (B B1 : St) (ct : Nat) (U : Pls) (N mb n1 : Nat) (D1 : DataW Unit) (g cap1 k : Nat) (L1 sb1 bm1 gm1 : Nat → Nat) (ws1 : Nat → List Nat) (S1 O1 : Nat → Prop) (q : Nat) : Prop where
  ca : Ca w1 c p sz m mb n1 D1 (some ⟨g, 0, none⟩) cap1 (k + 1) L1 sb1 bm1 gm1 ws1 S1 O1 U
  own : ∀ x, Ow c mb (some ⟨g, 0, none⟩) sb1 bm1 gm1 S1 x → Z x ∨ w.heap.size ≤ x
  turn : Turn (Tn Z mm K gf) w w1
  good : Good w1 p mm K bf gf B1 (ct + 1)
  tab : Tab w1
  pg : L1 0 = q
  s1 : ∀ r, S1 r ↔ Slb U m r ∨ r = q
  o1 : ∀ r, r ≠ q → (O1 r ↔ Opened U m r)
  free : ∃ i, i < m ∧ U q i = false
  page : (Slb U m q ∧ ∀ r, Opened U m r → q ≤ r) ∨ ((∀ r, ¬ Opened U m r) ∧ ¬ Slb U m q)
  came : Came B B1 U m q
  fit : B1 0 q = .used ∧ q < N ∧ Fit B1 U m N
  few : n1 ≤ ct + 1
  low : q < 1048576
  lab : ∀ x, AB p mm K bf gf x → x < w.heap.size

theorem Mid.sq {w w1 : World} {Z : Nat → Prop} {c p sz m mm K : Nat} {bf gf : Nat → Nat} {B B1 : St} {ct : Nat} {U : Pls} {N mb n1 : Nat} {D1 : DataW Unit} {g cap1 k : Nat} {L1 sb1 bm1 gm1 : Nat → Nat} {ws1 : Nat → List Nat} {S1 O1 : Nat → Prop} {q : Nat}
    (h : Mid w w1 Z c p sz m mm K bf gf B B1 ct U N mb n1 D1 g cap1 k L1 sb1 bm1 gm1 ws1 S1 O1 q) : S1 q := (h.s1 q).2 (.inr rfl)
theorem Mid.g0 {w w1 : World} {Z : Nat → Prop} {c p sz m mm K : Nat} {bf gf : Nat → Nat} {B B1 : St} {ct : Nat} {U : Pls} {N mb n1 : Nat} {D1 : DataW Unit} {g cap1 k : Nat} {L1 sb1 bm1 gm1 : Nat → Nat} {ws1 : Nat → List Nat} {S1 O1 : Nat → Prop} {q : Nat}
    (h : Mid w w1 Z c p sz m mm K bf gf B B1 ct U N mb n1 D1 g cap1 k L1 sb1 bm1 gm1 ws1 S1 O1 q) : w1.cell? ⟨g, 0, none⟩ = some (.pointer (some ⟨sb1 q, 0, none⟩)) := by
  obtain ⟨g', e, hH⟩ := h.ca.heapAt rfl
  cases e
  rw [hH.mem.cell (show 0 < k + 1 by omega), h.pg]

theorem Came.fit {B B' : St} {U : Pls} {m q N : Nat} (h : Came B B' U m q) (hF : Fit B U m N) : Fit B' U m N := by
  rcases h with ⟨_, rfl⟩ | ⟨_, _, _, hp, _⟩
  · exact hF
  · exact hF.more (fun r hr => (hp 0 r).2 (.inl hr))

/-- What stands behind a place's bit, the heap as it was: the rest. -/
theorem Mid.done {w w1 w4 : World} {Z : Nat → Prop} {c p sz m mm K : Nat} {bf gf : Nat → Nat} {B B1 : St} {ct : Nat} {U : Pls} {N mb n1 : Nat} {D1 : DataW Unit} {g cap1 k k' : Nat} {L1 L4 sb1 bm1 gm1 : Nat → Nat} {ws1 ws4 : Nat → List Nat} {S1 O1 O4 : Nat → Prop} {q i : Nat}
    (h : Mid w w1 Z c p sz m mm K bf gf B B1 ct U N mb n1 D1 g cap1 k L1 sb1 bm1 gm1 ws1 S1 O1 q) (hd : ∀ x, Z x → ¬ AB p mm K bf gf x) (hi : i < m) (hu : U q i = false) (hlow : ∀ j, j < i → U q j = true)
    (ht : Turn (fun x => Ow c mb (some ⟨g, 0, none⟩) sb1 bm1 gm1 S1 x) w1 w4) (hC : Ca w4 c p sz m mb n1 D1 (some ⟨g, 0, none⟩) cap1 k' L4 sb1 bm1 gm1 ws4 S1 O4 (setU U q i true))
    (hO : ∀ r, r ≠ q → (O4 r ↔ O1 r)) (hOq : O4 q ↔ ∃ j, j < m ∧ setU U q i true q j = false) {e : Ending} (he : e = .returned (.tuple #[.int .i64 ((place sz q i : Nat) : Int), .int .i64 0])) :
    STook w Z c p sz m mm K bf gf B ct U N e w4 := by
  have hown := h.own
  have hG4 : Good w4 p mm K bf gf B1 (ct + 1) := h.good.turn ht (fun x hx ho => by
    rcases hown x ho with e | e
    · exact hd x e hx
    · have := h.lab x hx
      omega)
  have hSS : ∀ r, Slb (setU U q i true) m r ↔ S1 r := fun r => by
    rw [h.s1]
    by_cases e : r = q
    · subst e; exact ⟨fun _ => .inr rfl, fun _ => slb_on hi⟩
    · rw [slb_other true e]
      exact ⟨.inl, fun h => h.resolve_right e⟩
  have hOO : ∀ r, Opened (setU U q i true) m r ↔ O4 r := fun r => by
    by_cases e : r = q
    · subst e
      rw [hOq]
      exact ⟨fun h => h.2, fun h => ⟨slb_on hi, h⟩⟩
    · rw [hO r e, h.o1 r e]
      unfold Opened
      rw [slb_other true e, setU_page U true e]
  refine ⟨fun x => Ow c mb (some ⟨g, 0, none⟩) sb1 bm1 gm1 S1 x, B1, h.turn.next ht (fun x hx => (hown x hx).imp .inl id), hown, hG4, .inr ⟨q, i, _, he, ⟨hi, hu, hlow, rfl, h.page⟩, ?_, h.fit.2.2.take hi ⟨h.fit.1, h.fit.2.1⟩, h.came⟩⟩
  refine ⟨mb, n1, D1, _, cap1, k', L4, sb1, bm1, gm1, ws4, hC.congr (fun _ _ => ⟨rfl, rfl, rfl, rfl⟩) hSS hOO (fun _ _ _ _ => rfl), fun x hx => ?_, h.few⟩
  rcases hx with e | e | e | ⟨r, hr, e⟩
  · exact .inl e
  · exact .inr (.inl e)
  · exact .inr (.inr (.inl e))
  · exact .inr (.inr (.inr ⟨r, (hSS r).1 hr, e⟩))

set_option maxRecDepth 100000 in
set_option maxHeartbeats 4000000 in
theorem stake_any {w : World} {Z : Nat → Prop} {c p sz m mm K : Nat} {bf gf : Nat → Nat} {B : St} {ct : Nat} {U : Pls} {N : Nat}
    (h : Sl w Z c p sz m ct U) (hG : Good w p mm K bf gf B ct) (hd : ∀ x, Z x → ¬ AB p mm K bf gf x) (hT : Tab w) (h1 : ¬ Tn Z mm K gf 2) (hc : ct ≤ 1000000) (hK : K ≤ 20) (hN : N = 2 ^ K) (hF : Fit B U m N) (hz1 : 16 ≤ sz) (hz2 : sz ≤ 512) (hm : m = 960 / sz) :
    Calls Tryz.prog 10 #[.pointer (some ⟨c, 0, none⟩)] w (STook w Z c p sz m mm K bf gf B ct U N) := by
  obtain ⟨mb, nm, D, a, cap, nn, L, sb, bm, gm, ws, hC, hZ, hnm⟩ := h
  have hm0 : 0 < m := by rw [hm]; exact Nat.div_pos (by omega) (by omega)
  have hm60 : m ≤ 60 := by rw [hm]; exact Nat.le_trans (Nat.div_le_div_left hz1 (by omega)) (by omega)
  have hN20 : N ≤ 1048576 := by rw [hN]; exact pow_le20 hK
  have c3 := hC.c3
  have HH := hid (And.intro hC (And.intro hZ (And.intro hG (And.intro hd (And.intro hT (And.intro h1 (And.intro hF (And.intro hm hN))))))))
  clear hC hZ hG hd hT h1 hF hm hN
  rcases Nat.eq_zero_or_pos nn with h0 | h0
  · subst h0
    obtain ⟨hC, hZ, hG, hd, hT, h1, hF, hm, hN⟩ := HH.out
    have hnoO : ∀ r, ¬ Opened U m r := fun r hr => by
      obtain ⟨k, hk, _⟩ := (hC.inn r).2 hr
      omega
    have hadd := sadd_any hC hZ hG hd hT hc (by omega) hK (fun q hq => (hF.page q hq).1) (fun q i hq hi => by
      cases e : U q i
      · rfl
      · exact absurd ⟨i, hi, e⟩ hq) hz1 hz2 hm
    have HA := hid (And.intro hadd hnoO)
    clear hC hZ hG hd hT h1 hF hm hN hadd hnoO
    go_enter Tryz.func10, Tryz.ntmps10
    go_wp2_with (go_at_call 68; refine (olen_any _ _ _ _).mono ?_; rintro e wx ⟨rfl, ex⟩; rw [ex]; clear ex wx)
    refine HA.out.1.mono ?_
    rintro e w1 ⟨ht1, ⟨rfl, hno, hC1, hG1⟩ | ⟨rfl, q, k, j, B1, D1, g, cap1, L1, sb1, bm1, gm1, ws1, hl, hpg, hu, hp, hG1, hC1, hown⟩⟩
    · have HX := hid (And.intro ht1 (And.intro hno (And.intro hC1 hG1)))
      clear ht1 hno hC1 hG1
      go_wp2_with fail
      go_ret2
      obtain ⟨ht1, hno, hC1, hG1⟩ := HX.out
      obtain ⟨hC, hZ, hG, hd, hT, h1, hF, hm, hN⟩ := HH.out
      exact ⟨Z, B, ht1, fun x hx => .inl hx, hG1, .inl ⟨rfl, HA.out.2, hno, rfl, mb, nm, D, a, cap, 0, L, sb, bm, gm, ws, hC1, hZ, by omega⟩⟩
    · obtain ⟨hC, hZ, hG, hd, hT, h1, hF, hm, hN⟩ := HH.out
      have hnoO := HA.out.2
      have hnS := hF.new hu
      have hqN : q < N := by
        have := (hG1.1.inn 0 q (by rw [(hp 0 q).2 (.inr ⟨rfl, rfl⟩)]; simp)).2
        rw [hN]; simpa using this
      have hq0 : L1 0 = q := by
        rcases (hC1.inn (L1 0)).1 ⟨0, by omega, rfl⟩ with e | e
        · exact absurd e (hnoO _)
        · exact e
      have hM : Mid w w1 Z c p sz m mm K bf gf B B1 ct U N mb (nm + 1) D1 g cap1 0 L1 sb1 bm1 gm1 ws1 _ _ q :=
        ⟨hC1, hown, ht1, hG1, hT.turn ht1 h1, hq0, fun r => Iff.rfl, fun r hr => ⟨fun e => e.resolve_right hr, .inl⟩, ⟨0, hm0, by
          cases e : U q 0
          · rfl
          · exact absurd ⟨0, hm0, e⟩ hnS⟩, .inr ⟨hnoO, hnS⟩, .inr ⟨hnS, hnoO, hu, hp, k, j, hl, hpg⟩, ⟨(hp 0 q).2 (.inr ⟨rfl, rfl⟩), hqN, hF.more (fun r hr => (hp 0 r).2 (.inl hr))⟩, by omega, by omega, fun x hx => hG.lab hx⟩
      have HM := hid hM
      clear hC hZ hG hd hT h1 hF hm hN hnoO hnS hl hpg hu hp hC1 hG1 hown ht1 hM HA
      have hg0 := HM.out.g0
      have hs0 := HM.out.ca.s0 HM.out.sq
      have hc3 := HM.out.ca.c3
      obtain ⟨y, hy⟩ : ∃ y, y = ((q * 1024 : Nat) : Int) := ⟨_, rfl⟩
      have hyb : 0 ≤ y ∧ y < 1073741824 := by have := HM.out.low; omega
      have HY := hid hy
      clear hy
      go_wp2_with (go_at_call 68; refine (olen_any _ _ _ _).mono ?_; rintro e wx ⟨rfl, ex⟩; rw [ex]; clear ex wx)
      refine (HM.out.ca.first HM.out.sq HM.out.tab HM.out.free).mono ?_
      rintro e wx ⟨i, rfl, hi, hu, hlow, ex⟩
      rw [ex]
      clear ex wx
      have HI := hid (And.intro hu hlow)
      clear hu hlow
      go_wp2_with fail
      refine ((HM.out.ca.below ((Below.refl _ _).alloc (Nat.le_refl _) _)).setCall HM.out.sq hi (heap_alloc_new w1 _)).mono ?_
      rintro e w2 ⟨t, rfl, hb2, ws2, hC2⟩
      have ht2 : Turn (fun x => Ow c mb (some ⟨g, 0, none⟩) sb1 bm1 gm1 (fun r => Slb U m r ∨ r = q) x) w1 w2 := (Turn.alloc (Turn.refl _ w1) _).next (Turn.of_but (S := fun x => x = gm1 q) hb2 (.inl rfl)) (by rintro x rfl; exact .inl (.inr (.inr (.inr ⟨q, HM.out.sq, .inr (.inr rfl)⟩))))
      have hT2 : Tab w2 := HM.out.tab.turn ht2 (fun ho => by
        rcases HM.out.own 2 ho with e | e
        · exact HH.out.2.2.2.2.2.1 (.inl e)
        · have := HH.out.2.2.2.2.1.pos
          omega)
      have hsb2 := hC2.s1 HM.out.sq
      rw [← HY.out] at hsb2
      have hbeg : ∀ wx : World, wx.cell? ⟨c, 1, none⟩ = some (.int .i64 (sz : Int)) → Calls Tryz.prog 73 #[.pointer (some ⟨c, 0, none⟩), .int .i64 y, .int .i64 (i : Int)] wx fun e w' => e = .returned (.int .i64 ((place sz q i : Nat) : Int)) ∧ w' = wx := fun wx hx => by
        rw [HY.out]
        exact begin_any wx c sz q i hx hz2 (by have := HM.out.low; omega) (by omega)
      have HB := hid hbeg
      have H2 := hid (And.intro hC2 (And.intro ht2 hT2))
      clear hC2 ht2 hT2 hb2 hbeg hg0 hs0
      go_wp2_with fail
      refine (H2.out.1.fullCall HM.out.sq H2.out.2.2).mono ?_
      rintro e wx ⟨f, rfl, hf, ex⟩
      rw [ex]
      clear ex wx
      obtain ⟨pl, hpl⟩ : ∃ pl, pl = place sz q i := ⟨_, rfl⟩
      rw [← hpl] at HB
      have HPL := hid hpl
      clear hpl
      cases f
      · go_wp2_with fail
        refine (HB.out w2 H2.out.1.c1).mono ?_
        rintro e wx ⟨rfl, ex⟩
        rw [ex]
        clear ex wx
        go_wp2_with fail
        go_ret2
        obtain ⟨hC2, ht2, hT2⟩ := H2.out
        refine HM.out.done HH.out.2.2.2.1 hi HI.out.1 HI.out.2 ht2 hC2 (fun r _ => Iff.rfl) ⟨fun _ => ?_, fun _ => ?_⟩ (by rw [← HPL.out]; rfl)
        · refine Classical.byContradiction fun hx => ?_
          have := hf.out.2 (fun j hj => by
            cases e : setU U q i true q j
            · exact absurd ⟨j, hj, e⟩ hx
            · rfl)
          cases this
        · have := (HM.out.ca.inn (L1 0)).1 ⟨0, by omega, rfl⟩
          rw [HM.out.pg] at this
          exact this
      · have hpop := hpop_any w2 c g cap1 0 _ L1 sb1 bm1 H2.out.1.head (by
          obtain ⟨g', e, hH⟩ := H2.out.1.heapAt rfl
          cases e
          exact hH) H2.out.1.heap
        have HPO := hid hpop
        clear hpop
        go_wp2_with fail
        refine HPO.out.mono ?_
        rintro e w3 ⟨rfl, hp3⟩
        obtain ⟨hC2, ht2, hT2⟩ := H2.out
        obtain ⟨L3, hC3, ht3⟩ := hC2.popped (i := 0) (by omega) ⟨rfl, hp3⟩
        rw [HM.out.pg] at hC3
        have hsb3 := hC3.s1 HM.out.sq
        rw [← HY.out] at hsb3
        have H3 := hid (And.intro hC3 ht3)
        clear hC2 ht2 hT2 hp3 hC3 ht3 hsb2
        go_wp2_with fail
        refine (HB.out w3 H3.out.1.c1).mono ?_
        rintro e wx ⟨rfl, ex⟩
        rw [ex]
        clear ex wx
        go_wp2_with fail
        go_ret2
        obtain ⟨hC2, ht2, hT2⟩ := H2.out
        obtain ⟨hC3, ht3⟩ := H3.out
        refine HM.out.done HH.out.2.2.2.1 hi HI.out.1 HI.out.2 (ht2.next ht3 (by
          rintro x (e | e | ⟨r, hr, e⟩)
          · exact .inl (.inl e)
          · exact .inl (.inr (.inr (.inl e)))
          · exact .inl (.inr (.inr (.inr ⟨r, hr, .inl e⟩))))) hC3 (fun r hr => ⟨fun e => e.1, fun e => ⟨e, hr⟩⟩) ⟨fun e => absurd rfl e.2, fun ⟨j, hj, e⟩ => ?_⟩ (by rw [← HPL.out]; rfl)
        rw [hf.out.1 trivial j hj] at e
        cases e
  · obtain ⟨k, rfl⟩ : ∃ k, nn = k + 1 := ⟨nn - 1, by omega⟩
    obtain ⟨hC, hZ, hG, hd, hT, h1, hF, hm, hN⟩ := HH.out
    obtain ⟨g, rfl, _⟩ := hC.heapAt rfl
    have hO0 := (hC.inn (L 0)).1 ⟨0, by omega, rfl⟩
    have hM : Mid w w Z c p sz m mm K bf gf B B ct U N mb nm D g cap k L sb bm gm ws _ _ (L 0) :=
      ⟨hC, fun x hx => .inl (hZ x hx), Turn.refl _ _, hG.more (by omega), hT, rfl, fun r => ⟨.inl, fun e => e.elim id (fun e => e ▸ hO0.1)⟩, fun r _ => Iff.rfl, hO0.2, .inl ⟨hO0.1, fun r hr => by
        obtain ⟨j, hj, rfl⟩ := (hC.inn r).2 hr
        exact hC.heap.least j hj⟩, .inl ⟨hO0.1, rfl⟩, ⟨(hF.page _ hO0.1).1, (hF.page _ hO0.1).2, hF⟩, by omega, by have := (hF.page _ hO0.1).2; omega, fun x hx => hG.lab hx⟩
    obtain ⟨q, hq⟩ : ∃ q, q = L 0 := ⟨_, rfl⟩
    rw [← hq] at hM
    have HM := hid hM
    have hk1 : ((k : Int) + 1 == 0) = false := by rw [beq_eq_false_iff_ne]; omega
    clear hC hZ hG hd hT h1 hF hm hN hO0 hM hq
    go_enter Tryz.func10, Tryz.ntmps10
    have hg0 := HM.out.g0
    have hs0 := HM.out.ca.s0 HM.out.sq
    have hc3 := HM.out.ca.c3
    obtain ⟨y, hy⟩ : ∃ y, y = ((q * 1024 : Nat) : Int) := ⟨_, rfl⟩
    have hyb : 0 ≤ y ∧ y < 1073741824 := by have := HM.out.low; omega
    have HY := hid hy
    clear hy
    go_wp2_with (go_at_call 68; refine (olen_any _ _ _ _).mono ?_; rintro e wx ⟨rfl, ex⟩; rw [ex]; clear ex wx)
    refine (HM.out.ca.first HM.out.sq HM.out.tab HM.out.free).mono ?_
    rintro e wx ⟨i, rfl, hi, hu, hlow, ex⟩
    rw [ex]
    clear ex wx
    have HI := hid (And.intro hu hlow)
    clear hu hlow
    go_wp2_with fail
    refine ((HM.out.ca.below ((Below.refl _ _).alloc (Nat.le_refl _) _)).setCall HM.out.sq hi (heap_alloc_new w _)).mono ?_
    rintro e w2 ⟨t, rfl, hb2, ws2, hC2⟩
    have ht2 : Turn (fun x => Ow c mb (some ⟨g, 0, none⟩) sb bm gm (Slb U m) x) w w2 := (Turn.alloc (Turn.refl _ w) _).next (Turn.of_but (S := fun x => x = gm q) hb2 (.inl rfl)) (by rintro x rfl; exact .inl (.inr (.inr (.inr ⟨q, HM.out.sq, .inr (.inr rfl)⟩))))
    have hT2 : Tab w2 := HM.out.tab.turn ht2 (fun ho => by
      rcases HM.out.own 2 ho with e | e
      · exact HH.out.2.2.2.2.2.1 (.inl e)
      · have := HH.out.2.2.2.2.1.pos
        omega)
    have hsb2 := hC2.s1 HM.out.sq
    rw [← HY.out] at hsb2
    have hbeg : ∀ wx : World, wx.cell? ⟨c, 1, none⟩ = some (.int .i64 (sz : Int)) → Calls Tryz.prog 73 #[.pointer (some ⟨c, 0, none⟩), .int .i64 y, .int .i64 (i : Int)] wx fun e w' => e = .returned (.int .i64 ((place sz q i : Nat) : Int)) ∧ w' = wx := fun wx hx => by
      rw [HY.out]
      exact begin_any wx c sz q i hx hz2 (by have := HM.out.low; omega) (by omega)
    have HB := hid hbeg
    have H2 := hid (And.intro hC2 (And.intro ht2 hT2))
    clear hC2 ht2 hT2 hb2 hbeg hg0 hs0
    go_wp2_with fail
    refine (H2.out.1.fullCall HM.out.sq H2.out.2.2).mono ?_
    rintro e wx ⟨f, rfl, hf, ex⟩
    rw [ex]
    clear ex wx
    obtain ⟨pl, hpl⟩ : ∃ pl, pl = place sz q i := ⟨_, rfl⟩
    rw [← hpl] at HB
    have HPL := hid hpl
    clear hpl
    cases f
    · go_wp2_with fail
      refine (HB.out w2 H2.out.1.c1).mono ?_
      rintro e wx ⟨rfl, ex⟩
      rw [ex]
      clear ex wx
      go_wp2_with fail
      go_ret2
      obtain ⟨hC2, ht2, hT2⟩ := H2.out
      refine HM.out.done HH.out.2.2.2.1 hi HI.out.1 HI.out.2 ht2 hC2 (fun r _ => Iff.rfl) ⟨fun _ => ?_, fun _ => ?_⟩ (by rw [← HPL.out]; rfl)
      · refine Classical.byContradiction fun hx => ?_
        have := hf.out.2 (fun j hj => by
          cases e : setU U q i true q j
          · exact absurd ⟨j, hj, e⟩ hx
          · rfl)
        cases this
      · have := (HM.out.ca.inn (L 0)).1 ⟨0, by omega, rfl⟩
        rw [HM.out.pg] at this
        exact this
    · have hpop := hpop_any w2 c g cap k _ L sb bm H2.out.1.head (by
        obtain ⟨g', e, hH⟩ := H2.out.1.heapAt rfl
        cases e
        exact hH) H2.out.1.heap
      have HPO := hid hpop
      clear hpop
      go_wp2_with fail
      refine HPO.out.mono ?_
      rintro e w3 ⟨rfl, hp3⟩
      obtain ⟨hC2, ht2, hT2⟩ := H2.out
      obtain ⟨L3, hC3, ht3⟩ := hC2.popped (i := 0) (by omega) ⟨rfl, hp3⟩
      rw [HM.out.pg] at hC3
      have hsb3 := hC3.s1 HM.out.sq
      rw [← HY.out] at hsb3
      have H3 := hid (And.intro hC3 ht3)
      clear hC2 ht2 hT2 hp3 hC3 ht3 hsb2
      go_wp2_with fail
      refine (HB.out w3 H3.out.1.c1).mono ?_
      rintro e wx ⟨rfl, ex⟩
      rw [ex]
      clear ex wx
      go_wp2_with fail
      go_ret2
      obtain ⟨hC2, ht2, hT2⟩ := H2.out
      obtain ⟨hC3, ht3⟩ := H3.out
      refine HM.out.done HH.out.2.2.2.1 hi HI.out.1 HI.out.2 (ht2.next ht3 (by
        rintro x (e | e | ⟨r, hr, e⟩)
        · exact .inl (.inl e)
        · exact .inl (.inr (.inr (.inl e)))
        · exact .inl (.inr (.inr (.inr ⟨r, hr, .inl e⟩))))) hC3 (fun r hr => ⟨fun e => e.1, fun e => ⟨e, hr⟩⟩) ⟨fun e => absurd rfl e.2, fun ⟨j, hj, e⟩ => ?_⟩ (by rw [← HPL.out]; rfl)
      rw [hf.out.1 trivial j hj] at e
      cases e
end Go.Proofs.YtdmnemgooagehaaGreatDoor

namespace Go.Proofs.YtdmnemgooagehaaGreatDoor
open Go.RowKit Go.Maps

def SGave (w : World) (Z : Nat → Prop) (c p sz m mm K : Nat) (bf gf : Nat → Nat) (B : St) (ct : Nat) (U : Pls) (N : Nat) (x : Int) (e : Ending) (w' : World) : Prop :=
  ∃ (Z' : Nat → Prop) (B' : St), Turn (Tn Z mm K gf) w w' ∧ (∀ x, Z' x → Z x ∨ w.heap.size ≤ x) ∧ Good w' p mm K bf gf B' ct ∧
    ((e = .returned (.int .i64 6) ∧ (∀ q i, i < m → U q i = true → x ≠ ((place sz q i : Nat) : Int)) ∧ B' = B ∧ Sl w' Z' c p sz m ct U) ∨
     ∃ q i, e = .returned (.int .i64 0) ∧ i < m ∧ U q i = true ∧ x = ((place sz q i : Nat) : Int) ∧ Sl w' Z' c p sz m ct (setU U q i false) ∧ Fit B' (setU U q i false) m N ∧
       ((Slb (setU U q i false) m q ∧ B' = B) ∨ (¬ Slb (setU U q i false) m q ∧ Less B B' 0 q)))

/-- What is known behind the test for a full slab: the place's slab stands in the heap. -/
structure Gid (w w1 : World) (Z : Nat → Prop) (c p sz m mm K : Nat) (bf gf : Nat → Nat) (B : St) (ct : Nat) (U : Pls) (N mb nm : Nat) (D : DataW Unit) (a1 : Option Addr) (cap1 nn1 : Nat) (L1 sb bm gm : Nat → Nat) (ws : Nat → List Nat) (O1 : Nat → Prop) (q i : Nat) : Prop where
  ca : Ca w1 c p sz m mb nm D a1 cap1 nn1 L1 sb bm gm ws (Slb U m) O1 U
  own : ∀ x, Ow c mb a1 sb bm gm (Slb U m) x → Z x ∨ w.heap.size ≤ x
  turn : Turn (Tn Z mm K gf) w w1
  good : Good w1 p mm K bf gf B ct
  o1 : ∀ r, O1 r ↔ Opened U m r ∨ r = q
  fit : Fit B U m N
  few : nm ≤ ct
  low : q < 1048576
  lt : i < m
  used : U q i = true
  apart : ∀ x, Z x → ¬ AB p mm K bf gf x
  lab : ∀ x, AB p mm K bf gf x → x < w.heap.size

section
variable {w w1 : World} {Z : Nat → Prop} {c p sz m mm K : Nat} {bf gf : Nat → Nat} {B : St} {ct : Nat} {U : Pls} {N mb nm : Nat} {D : DataW Unit} {a1 : Option Addr} {cap1 nn1 : Nat} {L1 sb bm gm : Nat → Nat} {ws : Nat → List Nat} {O1 : Nat → Prop} {q i : Nat}
theorem Gid.sq (h : Gid w w1 Z c p sz m mm K bf gf B ct U N mb nm D a1 cap1 nn1 L1 sb bm gm ws O1 q i) : Slb U m q := ⟨i, h.lt, h.used⟩
theorem Gid.off (h : Gid w w1 Z c p sz m mm K bf gf B ct U N mb nm D a1 cap1 nn1 L1 sb bm gm ws O1 q i) {x : Nat} (hx : Ow c mb a1 sb bm gm (Slb U m) x) : ¬ AB p mm K bf gf x := fun ha => by
  rcases h.own x hx with e | e
  · exact h.apart x e ha
  · have := h.lab x ha
    omega
theorem Gid.opened (h : Gid w w1 Z c p sz m mm K bf gf B ct U N mb nm D a1 cap1 nn1 L1 sb bm gm ws O1 q i) {r : Nat} (hr : r ≠ q) : Opened (setU U q i false) m r ↔ O1 r := by
  rw [h.o1]
  unfold Opened
  rw [slb_other false hr, setU_page U false hr]
  exact ⟨.inl, fun e => e.resolve_right hr⟩
theorem Gid.kept {w2 : World} {ws2 : Nat → List Nat} {e : Ending} {x : Int} (h : Gid w w1 Z c p sz m mm K bf gf B ct U N mb nm D a1 cap1 nn1 L1 sb bm gm ws O1 q i) (hx : x = ((place sz q i : Nat) : Int)) (ht : Turn (fun x => Ow c mb a1 sb bm gm (Slb U m) x) w1 w2)
    (hC : Ca w2 c p sz m mb nm D a1 cap1 nn1 L1 sb bm gm ws2 (Slb U m) O1 (setU U q i false)) (hs : Slb (setU U q i false) m q) (he : e = .returned (.int .i64 0)) : SGave w Z c p sz m mm K bf gf B ct U N x e w2 := by
  have hSS : ∀ r, Slb (setU U q i false) m r ↔ Slb U m r := fun r => by
    by_cases e : r = q
    · subst e; exact ⟨fun _ => h.sq, fun _ => hs⟩
    · exact slb_other false e
  have hOO : ∀ r, Opened (setU U q i false) m r ↔ O1 r := fun r => by
    by_cases e : r = q
    · subst e
      rw [h.o1]
      exact ⟨fun _ => .inr rfl, fun _ => ⟨hs, i, h.lt, setU_same _ _ _ _⟩⟩
    · exact h.opened e
  refine ⟨fun x => Ow c mb a1 sb bm gm (Slb U m) x, B, h.turn.next ht (fun x hx => (h.own x hx).imp .inl id), h.own, h.good.turn ht (fun x hx ho => h.off ho hx), .inr ⟨q, i, he, h.lt, h.used, hx, ?_, h.fit.give (fun _ _ h => h), .inl ⟨hs, rfl⟩⟩⟩
  refine ⟨mb, nm, D, a1, cap1, nn1, L1, sb, bm, gm, ws2, hC.congr (fun _ _ => ⟨rfl, rfl, rfl, rfl⟩) hSS hOO (fun _ _ _ _ => rfl), fun x hx => ?_, h.few⟩
  rcases hx with e | e | e | ⟨r, hr, e⟩
  · exact .inl e
  · exact .inr (.inl e)
  · exact .inr (.inr (.inl e))
  · exact .inr (.inr (.inr ⟨r, (hSS r).1 hr, e⟩))
theorem Gid.gone {w2 w3 : World} {ws2 : Nat → List Nat} {e : Ending} {x : Int} (h : Gid w w1 Z c p sz m mm K bf gf B ct U N mb nm D a1 cap1 nn1 L1 sb bm gm ws O1 q i) (hx : x = ((place sz q i : Nat) : Int)) (ht : Turn (fun x => Ow c mb a1 sb bm gm (Slb U m) x) w1 w2)
    (hs : ¬ Slb (setU U q i false) m q) (hp : DropPost w2 (fun x => Ow c mb a1 sb bm gm (Slb U m) x) c p sz m mm K bf gf B ct mb nm a1 cap1 q sb bm gm ws2 (Slb U m) O1 (setU U q i false) e w3) : SGave w Z c p sz m mm K bf gf B ct U N x e w3 := by
  obtain ⟨he, ht3, B', D', nn', L', hL, hG3, hC3⟩ := hp
  have hSS : ∀ r, Slb (setU U q i false) m r ↔ Slb U m r ∧ r ≠ q := fun r => by
    by_cases e : r = q
    · subst e; exact ⟨fun h => absurd h hs, fun h => absurd rfl h.2⟩
    · rw [slb_other false e]
      exact ⟨fun h => ⟨h, e⟩, fun h => h.1⟩
  have hOO : ∀ r, Opened (setU U q i false) m r ↔ O1 r ∧ r ≠ q := fun r => by
    by_cases e : r = q
    · subst e
      exact ⟨fun h => absurd h.1 hs, fun h => absurd rfl h.2⟩
    · rw [h.opened e]
      exact ⟨fun h => ⟨h, e⟩, fun h => h.1⟩
  refine ⟨fun x => Ow c mb a1 sb bm gm (Slb U m) x, B', (h.turn.next ht (fun x hx => (h.own x hx).imp .inl id)).next ht3 ?_, h.own, hG3, .inr ⟨q, i, he, h.lt, h.used, hx, ?_, h.fit.give (fun r hr hB => (hL 0 r).2 ⟨hB, fun e => hs (e.2 ▸ hr)⟩), .inr ⟨hs, hL⟩⟩⟩
  · rintro x (hx | hx)
    · exact (h.own x hx).imp .inl id
    · exact .inl (.inr hx)
  refine ⟨mb, nm, D', a1, cap1, nn', L', sb, bm, gm, ws2, hC3.congr (fun _ _ => ⟨rfl, rfl, rfl, rfl⟩) hSS hOO (fun _ _ _ _ => rfl), fun x hx => ?_, h.few⟩
  rcases hx with e | e | e | ⟨r, hr, e⟩
  · exact .inl e
  · exact .inr (.inl e)
  · exact .inr (.inr (.inl e))
  · exact .inr (.inr (.inr ⟨r, ((hSS r).1 hr).1, e⟩))
end

set_option maxRecDepth 100000 in
set_option maxHeartbeats 4000000 in
theorem sgive_any {w : World} {Z : Nat → Prop} {c p sz m mm K : Nat} {bf gf : Nat → Nat} {B : St} {ct : Nat} {U : Pls} {N : Nat} (x : Int)
    (h : Sl w Z c p sz m ct U) (hG : Good w p mm K bf gf B ct) (hd : ∀ x, Z x → ¬ AB p mm K bf gf x) (hT : Tab w) (h1 : ¬ Tn Z mm K gf 2) (hN : N ≤ 1048576) (hF : Fit B U m N) (hz1 : 16 ≤ sz) (hz2 : sz ≤ 512) (hm : m = 960 / sz) (hx1 : -9223372036854775808 ≤ x) (hx2 : x < 9223372036854775808) :
    Calls Tryz.prog 13 #[.pointer (some ⟨c, 0, none⟩), .int .i64 x] w (SGave w Z c p sz m mm K bf gf B ct U N x) := by
  obtain ⟨mb, nm, D, a, cap, nn, L, sb, bm, gm, ws, hC, hZ, hnm⟩ := h
  have hsz : 64 + m * sz ≤ 1024 := by have := Nat.div_mul_le_self 960 sz; rw [hm]; omega
  have hm60 : m ≤ 60 := by rw [hm]; exact Nat.le_trans (Nat.div_le_div_left hz1 (by omega)) (by omega)
  have hfind := sfind_any hC (by omega) hz2 hsz x hx1 hx2
  have HH := hid (And.intro hC (And.intro hZ (And.intro hG (And.intro hd (And.intro hT (And.intro h1 (And.intro hF hm)))))))
  have HF := hid hfind
  clear hC hZ hG hd hT h1 hF hm hfind hsz
  go_enter Tryz.func13, Tryz.ntmps13
  go_wp2_with fail
  refine HF.out.mono ?_
  rintro e w0 ⟨⟨rfl, hno⟩ | ⟨q, i, hSq, hi, hu, hxe, rfl⟩, k, rfl⟩
  · have HN := hid hno
    clear hno
    go_wp2_with fail
    go_ret
    obtain ⟨hC, hZ, hG, hd, hT, h1, hF, hm⟩ := HH.out
    exact ⟨Z, B, Turn.drewN (Turn.refl _ w) k, fun x hx => .inl hx, hG.other (fun _ _ _ => rfl), .inl ⟨rfl, fun q i hi hu => HN.out q i ⟨i, hi, hu⟩ hi hu, rfl, mb, nm, D, a, cap, nn, L, sb, bm, gm, ws, hC.drewN k, hZ, hnm⟩⟩
  · have HI := hid (And.intro hSq (And.intro hu hxe))
    have hqN : q < 1048576 := by have := (HH.out.2.2.2.2.2.2.1.page q hSq).2; omega
    clear hSq hu hxe
    go_wp2_with fail
    refine ((HH.out.1.drewN k).fullCall HI.out.1 (HH.out.2.2.2.2.1.drewN k)).mono ?_
    rintro e wx ⟨f, rfl, hf, ex⟩
    rw [ex]
    clear ex wx
    cases f
    · obtain ⟨hC, hZ, hG, hd, hT, h1, hF, hm⟩ := HH.out
      have hGi : Gid w (w.drewN k) Z c p sz m mm K bf gf B ct U N mb nm D a cap nn L sb bm gm ws (Opened U m) q i :=
        ⟨hC.drewN k, fun x hx => .inl (hZ x hx), Turn.drewN (Turn.refl _ w) k, hG.other (fun _ _ _ => rfl), fun r => ⟨.inl, fun e => e.elim id (fun e => e ▸ ⟨HI.out.1, by
          refine Classical.byContradiction fun hx => ?_
          have := hf.out.2 (fun j hj => by
            cases e : U q j
            · exact absurd ⟨j, hj, e⟩ hx
            · rfl)
          cases this⟩)⟩, hF, hnm, hqN, hi, HI.out.2.1, hd, fun x hx => hG.lab hx⟩
      have HM := hid hGi
      obtain ⟨w1, hw1⟩ : ∃ w1, w1 = w.drewN k := ⟨_, rfl⟩
      have HT1 := hid (hT.drewN k)
      rw [← hw1] at HM HT1 ⊢
      have HW := hid hw1
      clear hC hZ hG hd hT h1 hF hm hGi hf hw1
      have hs0 := HM.out.ca.s0 HM.out.sq
      go_wp2_with fail
      refine ((HM.out.ca.below ((Below.refl _ _).alloc (Nat.le_refl _) _)).setCall (on := false) HM.out.sq hi (heap_alloc_new w1 _)).mono ?_
      rintro e w2 ⟨t, rfl, hb2, ws2, hC2⟩
      have ht2 : Turn (fun x => Ow c mb a sb bm gm (Slb U m) x) w1 w2 := (Turn.alloc (Turn.refl _ w1) _).next (Turn.of_but (S := fun x => x = gm q) hb2 (.inl rfl)) (by rintro x rfl; exact .inl (.inr (.inr (.inr ⟨q, HM.out.sq, .inr (.inr rfl)⟩))))
      have hs02 := hC2.s0 HM.out.sq
      have hcnt : count (now ws q ws2 q) = cnt (setU U q i false q) m := (count_cnt (hC2.bits q HM.out.sq).ok).trans (cnt_congr (fun j hj => hC2.bit_ q HM.out.sq j hj))
      have hcb : cnt (setU U q i false q) m ≤ 60 := Nat.le_trans (cnt_le _ _) hm60
      have hcc := count_any (bm q) (gm q) m _ w2 (hC2.bits q HM.out.sq)
      rw [hcnt] at hcc
      obtain ⟨n, hn⟩ : ∃ n, n = cnt (setU U q i false q) m := ⟨_, rfl⟩
      rw [← hn] at hcc hcb
      have HN := hid hn
      have HC := hid hcc
      have H2 := hid (And.intro hC2 ht2)
      clear hC2 ht2 hb2 hs0 hcnt hn hcc
      rcases Nat.eq_zero_or_pos n with hn0 | hn0
      · subst hn0
        have hnS : ¬ Slb (setU U q i false) m q := fun hs => by
          have := (slb_cnt _ _ _).1 hs
          rw [← HN.out] at this
          omega
        have hdrop := sdrop_any (Z := fun x => Ow c mb a sb bm gm (Slb U m) x) H2.out.1 (fun _ hx => hx) (HM.out.good.turn H2.out.2 (fun x hx ho => HM.out.off ho hx)) (fun x hx => HM.out.off hx) ((HM.out.o1 q).2 (.inr rfl)) (HM.out.fit.page q HM.out.sq).1 HM.out.low
        have HD := hid (And.intro hdrop hnS)
        clear hdrop hnS
        go_wp2_with (go_at_call 76; refine HC.out.mono ?_; rintro e wx ⟨rfl, ex⟩; rw [ex]; clear ex wx)
        refine HD.out.1.mono ?_
        rintro e w3 ⟨rfl, hp3⟩
        have H3 := hid hp3
        clear hp3
        go_wp2_with fail
        go_ret
        exact HM.out.gone HI.out.2.2 H2.out.2 HD.out.2 ⟨rfl, H3.out⟩
      · have hlt : decide ((0 : Int) < (n : Int)) = true := by simp; omega
        go_wp2_with (go_at_call 76; refine HC.out.mono ?_; rintro e wx ⟨rfl, ex⟩; rw [ex]; clear ex wx)
        go_ret
        exact HM.out.kept HI.out.2.2 H2.out.2 H2.out.1 ((slb_cnt _ _ _).2 (by rw [← HN.out]; exact hn0)) rfl
    · obtain ⟨hC, hZ, hG, hd, hT, h1, hF, hm⟩ := HH.out
      have hno : ¬ Opened U m q := fun ho => by
        obtain ⟨j, hj, e⟩ := ho.2
        rw [hf.out.1 rfl j hj] at e
        cases e
      have hpu := (hC.drewN k).toPush HI.out.1 hno (N := 1048576) (fun r hr => by have := (hF.page r hr).2; omega) (Nat.le_refl _)
      have HP := hid hpu
      clear hC hZ hG hd hT h1 hF hm hpu hf hno
      go_wp2_with fail
      refine HP.out.mono ?_
      rintro e w1 ⟨rfl, hp1⟩
      obtain ⟨hC, hZ, hG, hd, hT, h1, hF, hm⟩ := HH.out
      obtain ⟨g1, cap1, L1, hC1, ha1, ht1⟩ := (hC.drewN k).pushed HI.out.1 ⟨rfl, hp1⟩
      have hTn : Turn (Tn Z mm K gf) w w1 := (Turn.drewN (Turn.refl _ w) k).next ht1 (by
        rintro x (rfl | ⟨ad, e, rfl⟩ | ⟨r, hr, rfl⟩)
        · exact .inl (.inl (hZ _ (.inl rfl)))
        · exact .inl (.inl (hZ _ (.inr (.inr (.inl ⟨_, e, rfl⟩)))))
        · exact .inl (.inl (hZ _ (.inr (.inr (.inr ⟨r, hr, .inl rfl⟩))))))
      have hGi : Gid w w1 Z c p sz m mm K bf gf B ct U N mb nm D (some ⟨g1, 0, none⟩) cap1 (nn + 1) L1 sb bm gm ws _ q i :=
        ⟨hC1, fun x hx => by
          rcases hx with e | e | ⟨ad, e, e2⟩ | e
          · exact .inl (hZ _ (.inl e))
          · exact .inl (hZ _ (.inr (.inl e)))
          · cases e
            rcases ha1 with e | e
            · exact .inl (hZ _ (.inr (.inr (.inl ⟨_, e, e2⟩))))
            · right
              rw [e2]
              exact e
          · exact .inl (hZ _ (.inr (.inr (.inr e)))), hTn, (hG.other (w' := w.drewN k) (fun _ _ _ => rfl)).turn ht1 (by
            rintro x hx (rfl | ⟨ad, e, rfl⟩ | ⟨r, hr, rfl⟩)
            · exact hd _ (hZ _ (.inl rfl)) hx
            · exact hd _ (hZ _ (.inr (.inr (.inl ⟨_, e, rfl⟩)))) hx
            · exact hd _ (hZ _ (.inr (.inr (.inr ⟨r, hr, .inl rfl⟩)))) hx), fun r => Iff.rfl, hF, hnm, hqN, hi, HI.out.2.1, hd, fun x hx => hG.lab hx⟩
      have HM := hid hGi
      have HT1 := hid (hT.turn hTn h1)
      clear hC hZ hG hd hT h1 hF hm hGi hC1 ha1 ht1 hTn hp1 HP
      have hs0 := HM.out.ca.s0 HM.out.sq
      go_wp2_with fail
      refine ((HM.out.ca.below ((Below.refl _ _).alloc (Nat.le_refl _) _)).setCall (on := false) HM.out.sq hi (heap_alloc_new w1 _)).mono ?_
      rintro e w2 ⟨t, rfl, hb2, ws2, hC2⟩
      have ht2 : Turn (fun x => Ow c mb (some ⟨g1, 0, none⟩) sb bm gm (Slb U m) x) w1 w2 := (Turn.alloc (Turn.refl _ w1) _).next (Turn.of_but (S := fun x => x = gm q) hb2 (.inl rfl)) (by rintro x rfl; exact .inl (.inr (.inr (.inr ⟨q, HM.out.sq, .inr (.inr rfl)⟩))))
      have hs02 := hC2.s0 HM.out.sq
      have hcnt : count (now ws q ws2 q) = cnt (setU U q i false q) m := (count_cnt (hC2.bits q HM.out.sq).ok).trans (cnt_congr (fun j hj => hC2.bit_ q HM.out.sq j hj))
      have hcb : cnt (setU U q i false q) m ≤ 60 := Nat.le_trans (cnt_le _ _) hm60
      have hcc := count_any (bm q) (gm q) m _ w2 (hC2.bits q HM.out.sq)
      rw [hcnt] at hcc
      obtain ⟨n, hn⟩ : ∃ n, n = cnt (setU U q i false q) m := ⟨_, rfl⟩
      rw [← hn] at hcc hcb
      have HN := hid hn
      have HC := hid hcc
      have H2 := hid (And.intro hC2 ht2)
      clear hC2 ht2 hb2 hs0 hcnt hn hcc
      rcases Nat.eq_zero_or_pos n with hn0 | hn0
      · subst hn0
        have hnS : ¬ Slb (setU U q i false) m q := fun hs => by
          have := (slb_cnt _ _ _).1 hs
          rw [← HN.out] at this
          omega
        have hdrop := sdrop_any (Z := fun x => Ow c mb (some ⟨g1, 0, none⟩) sb bm gm (Slb U m) x) H2.out.1 (fun _ hx => hx) (HM.out.good.turn H2.out.2 (fun x hx ho => HM.out.off ho hx)) (fun x hx => HM.out.off hx) ((HM.out.o1 q).2 (.inr rfl)) (HM.out.fit.page q HM.out.sq).1 HM.out.low
        have HD := hid (And.intro hdrop hnS)
        clear hdrop hnS
        go_wp2_with (go_at_call 76; refine HC.out.mono ?_; rintro e wx ⟨rfl, ex⟩; rw [ex]; clear ex wx)
        refine HD.out.1.mono ?_
        rintro e w3 ⟨rfl, hp3⟩
        have H3 := hid hp3
        clear hp3
        go_wp2_with fail
        go_ret
        exact HM.out.gone HI.out.2.2 H2.out.2 HD.out.2 ⟨rfl, H3.out⟩
      · have hlt : decide ((0 : Int) < (n : Int)) = true := by simp; omega
        go_wp2_with (go_at_call 76; refine HC.out.mono ?_; rintro e wx ⟨rfl, ex⟩; rw [ex]; clear ex wx)
        go_ret
        exact HM.out.kept HI.out.2.2 H2.out.2 H2.out.1 ((slb_cnt _ _ _).2 (by rw [← HN.out]; exact hn0)) rfl

def SHasPost (w : World) (sz m : Nat) (U : Pls) (x : Int) (e : Ending) (w' : World) : Prop := ∃ f : Bool, e = .returned (.bool f) ∧ Hid (f = true ↔ ∃ q i, i < m ∧ U q i = true ∧ x = ((place sz q i : Nat) : Int)) ∧ ∃ k, w' = w.drewN k
theorem shas_nil (w : World) (x : Int) : Calls Tryz.prog 16 #[.pointer none, .int .i64 x] w fun e w' => e = .returned (.bool false) ∧ w' = w := by
  go_enter Tryz.func16, Tryz.ntmps16
  go_wp2_with (go_at_call 74; refine (sfind_nil _ _).mono ?_; rintro e w' ⟨rfl, rfl⟩)
  go_ret
  exact ⟨rfl, rfl⟩
theorem shas_any {w : World} {Z : Nat → Prop} {c p sz m ct : Nat} {U : Pls} (x : Int) (h : Sl w Z c p sz m ct U) (hz1 : 16 ≤ sz) (hz2 : sz ≤ 512) (hm : m = 960 / sz) (hx1 : -9223372036854775808 ≤ x) (hx2 : x < 9223372036854775808) :
    Calls Tryz.prog 16 #[.pointer (some ⟨c, 0, none⟩), .int .i64 x] w (SHasPost w sz m U x) := by
  obtain ⟨mb, nm, D, a, cap, nn, L, sb, bm, gm, ws, hC, hZ, hnm⟩ := h
  have hsz : 64 + m * sz ≤ 1024 := by have := Nat.div_mul_le_self 960 sz; rw [hm]; omega
  have hfind := sfind_any hC (by omega) hz2 hsz x hx1 hx2
  have HF := hid hfind
  clear hC hZ hm hfind hsz
  go_enter Tryz.func16, Tryz.ntmps16
  go_wp2_with fail
  refine HF.out.mono ?_
  rintro e w0 ⟨⟨rfl, hno⟩ | ⟨q, i, hSq, hi, hu, hxe, rfl⟩, k, rfl⟩
  · have HN := hid hno
    clear hno
    go_wp2_with fail
    go_ret
    exact ⟨false, rfl, Iff.intro (fun e => absurd e (by decide)) (fun ⟨q, i, hi, hu, e⟩ => absurd e (HN.out q i ⟨i, hi, hu⟩ hi hu)), k, rfl⟩
  · have HN := hid (And.intro hSq (And.intro hi (And.intro hu hxe)))
    clear hSq hi hu hxe
    go_wp2_with fail
    go_ret
    exact ⟨true, rfl, Iff.intro (fun _ => ⟨q, i, HN.out.2.1, HN.out.2.2.1, HN.out.2.2.2⟩) (fun _ => rfl), k, rfl⟩
end Go.Proofs.YtdmnemgooagehaaGreatDoor
