/- The document's tree in memory, and the contracts of its functions At, Use, fits, New and May. -/
import Derived.Test.YtdmnemgooagehaaGreatDoorR10
namespace Go.Proofs.YtdmnemgooagehaaGreatDoor.Qu
open Go.RowKit

def fcells (f : Fac) : List Value := [.int .i64 (f.id : Int), .int .i64 f.par, .int .i64 (f.lim : Int), .int .i64 (f.chg : Int)]
def rcells (l : List Fac) : List Value := l.flatMap fcells
theorem rcells_len (l : List Fac) : (rcells l).length = l.length * 4 := by
  induction l with
  | nil => rfl
  | cons a r ih => unfold rcells at *; rw [List.flatMap_cons, List.length_append, ih, List.length_cons]; simp [fcells]; omega
theorem rcells_append (l m : List Fac) : rcells (l ++ m) = rcells l ++ rcells m := by simp [rcells]
theorem rcells_get : ∀ (l : List Fac) (k c : Nat) (f : Fac), l[k]? = some f → c < 4 → (rcells l)[k * 4 + c]? = (fcells f)[c]?
  | [], k, c, f, h, _ => by simp at h
  | a :: r, 0, c, f, h, hc => by
    obtain rfl : a = f := by simpa using h
    unfold rcells
    rw [List.flatMap_cons, List.getElem?_append_left (by simp [fcells]; omega), Nat.zero_mul, Nat.zero_add]
  | a :: r, k + 1, c, f, h, hc => by
    have ih := rcells_get r k c f (by simpa using h) hc
    unfold rcells at *
    rw [List.flatMap_cons, List.getElem?_append_right (by simp [fcells]; omega), show (k + 1) * 4 + c - (fcells a).length = k * 4 + c from by simp [fcells]; omega]
    exact ih

/-- The document's tree at block q, its row at block g. -/
structure Rm (w : World) (q g cap : Nat) (l : List Fac) (nxt : Nat) : Prop where
  head : w.heap[q]? = some (.cells #[.slice (some ⟨g, 0, none⟩) l.length cap, .int .i64 (nxt : Int)] 166)
  row : w.ownsRow 0 168 4 (.slice (some ⟨g, 0, none⟩) l.length cap) l.length (rcells l)
  ne : g ≠ q

section
variable {w w' : World} {q g cap nxt : Nat} {l : List Fac}
theorem Rm.body (h : Rm w q g cap l nxt) : ∃ cur : Array Value, w.heap[g]? = some (.cells cur 168) ∧ l.length ≤ cap ∧ cap ≤ maxLen ∧ cur.size = cap * 4 ∧ cur.toList.take (l.length * 4) = rcells l := by
  rcases h.row.2 with ⟨e, _⟩ | ⟨g', cap', cur, e, _, h1, h2, h3, h4, h5⟩
  · cases e
  · obtain ⟨rfl, rfl⟩ : g = g' ∧ cap = cap' := by simpa using e
    exact ⟨cur, h1, h2, h3, h4, h5⟩
theorem Rm.get (h : Rm w q g cap l nxt) {k c : Nat} {f : Fac} (hk : l[k]? = some f) (hc : c < 4) : w.cell? ⟨g, k * 4 + c, none⟩ = (fcells f)[c]? := by
  obtain ⟨cur, h1, _, _, h4, h5⟩ := h.body
  have hlt : k < l.length := (List.getElem?_eq_some_iff.1 hk).1
  rw [cell_of_row _ _ _ _ _ _ h1, ← rcells_get l k c f hk hc, ← h5, List.getElem?_take_of_lt (by omega), Array.getElem?_toList]
theorem Rm.lq (h : Rm w q g cap l nxt) : q < w.heap.size := (Array.getElem?_eq_some_iff.1 h.head).1
theorem Rm.lg (h : Rm w q g cap l nxt) : g < w.heap.size := by
  obtain ⟨cur, h1, _⟩ := h.body
  exact (Array.getElem?_eq_some_iff.1 h1).1
theorem Rm.other (h : Rm w q g cap l nxt) (hq : w'.heap[q]? = w.heap[q]?) (hg : w'.heap[g]? = w.heap[g]?) : Rm w' q g cap l nxt :=
  ⟨hq.trans h.head, h.row.other (fun x hx => by
    obtain rfl : g = x := by simpa [Value.ownBlock] using hx
    exact hg), h.ne⟩
theorem Rm.below (h : Rm w q g cap l nxt) (hb : Below w.heap.size w w') : Rm w' q g cap l nxt := h.other (hb.block q h.lq) (hb.block g h.lg)
theorem Rm.drewN (h : Rm w q g cap l nxt) (k : Nat) : Rm (w.drewN k) q g cap l nxt := h.other rfl rfl
theorem Rm.turn {S : Nat → Prop} (h : Rm w q g cap l nxt) (hb : Turn S w w') (h1 : ¬ S q) (h2 : ¬ S g) : Rm w' q g cap l nxt := h.other (hb.block q h.lq h1) (hb.block g h.lg h2)
theorem Rm.c0 (h : Rm w q g cap l nxt) : w.cell? ⟨q, 0, none⟩ = some (.slice (some ⟨g, 0, none⟩) l.length cap) := by rw [cell_of_row _ _ _ _ _ _ h.head]; rfl
theorem Rm.c1 (h : Rm w q g cap l nxt) : w.cell? ⟨q, 1, none⟩ = some (.int .i64 (nxt : Int)) := by rw [cell_of_row _ _ _ _ _ _ h.head]; rfl
theorem Rm.fid (h : Rm w q g cap l nxt) {k : Nat} {f : Fac} (hk : l[k]? = some f) : w.cell? ⟨g, k * 4, none⟩ = some (.int .i64 (f.id : Int)) := h.get (c := 0) hk (by omega)
theorem Rm.fpar (h : Rm w q g cap l nxt) {k : Nat} {f : Fac} (hk : l[k]? = some f) : w.cell? ⟨g, k * 4 + 1, none⟩ = some (.int .i64 f.par) := h.get (c := 1) hk (by omega)
theorem Rm.flim (h : Rm w q g cap l nxt) {k : Nat} {f : Fac} (hk : l[k]? = some f) : w.cell? ⟨g, k * 4 + 2, none⟩ = some (.int .i64 (f.lim : Int)) := h.get (c := 2) hk (by omega)
theorem Rm.fchg (h : Rm w q g cap l nxt) {k : Nat} {f : Fac} (hk : l[k]? = some f) : w.cell? ⟨g, k * 4 + 3, none⟩ = some (.int .i64 (f.chg : Int)) := h.get (c := 3) hk (by omega)

theorem rat_none (h : Rm w q g cap l nxt) (hl : l.length ≤ 32) (i : Int) (hi : the l i = none) :
    Calls Tryz.prog 107 #[.pointer (some ⟨q, 0, none⟩), .int .i64 i] w fun e w' => e = .returned (.int .i64 (-1)) ∧ w' = w := by
  have c0 := h.c0
  have HQ := hid h
  have HI := hid hi
  clear h hi
  go_enter Tryz.func107, Tryz.ntmps107
  go_wp2
  go_loop [5] (fun i => ∃ k : Nat, k ≤ l.length ∧ i = .int .i64 k) (fun i => l.length - (intOf i).toNat)
  case atStart => exact ⟨0, Nat.zero_le _, rfl⟩
  case round =>
    obtain ⟨k, hk, rfl⟩ := hrel
    by_cases hlt : k < l.length
    · obtain ⟨f, hf⟩ : ∃ f, l[k]? = some f := ⟨_, List.getElem?_eq_getElem hlt⟩
      have hm := List.mem_of_getElem? hf
      have h2 := HQ.out.fid hf
      have hne := the_none.1 HI.out f hm
      have hne2 : ((f.id : Int) == i) = false := by rw [beq_eq_false_iff_ne]; exact hne
      clear hf hm hne
      generalize f.id = fi at *
      go_wp2
      exact ⟨⟨k + 1, by omega, by go_num⟩, by simp [intOf]; omega⟩
    · go_wp2
      go_ret
      exact ⟨rfl, rfl⟩
theorem rat_some (h : Rm w q g cap l nxt) (hl : l.length ≤ 32) (i : Int) (f : Fac) (n : Nat) (hn : l[n]? = some f) (hid' : (f.id : Int) = i) (hno : ∀ j g, j < n → l[j]? = some g → (g.id : Int) ≠ i) :
    Calls Tryz.prog 107 #[.pointer (some ⟨q, 0, none⟩), .int .i64 i] w fun e w' => e = .returned (.int .i64 (n : Int)) ∧ w' = w := by
  have c0 := h.c0
  have hnl : n < l.length := (List.getElem?_eq_some_iff.1 hn).1
  have HQ := hid h
  have HN := hid (And.intro hn hno)
  have HID := hid hid'
  clear h hn hno hid'
  go_enter Tryz.func107, Tryz.ntmps107
  go_wp2
  go_loop [5] (fun i => ∃ k : Nat, k ≤ n ∧ i = .int .i64 k) (fun i => l.length - (intOf i).toNat)
  case atStart => exact ⟨0, Nat.zero_le _, rfl⟩
  case round =>
    obtain ⟨k, hk, rfl⟩ := hrel
    have hlt : k < l.length := by omega
    by_cases hkn : k < n
    · obtain ⟨f', hf⟩ : ∃ f, l[k]? = some f := ⟨_, List.getElem?_eq_getElem hlt⟩
      have h2 := HQ.out.fid hf
      have hne := HN.out.2 k f' hkn hf
      have hne2 : ((f'.id : Int) == i) = false := by rw [beq_eq_false_iff_ne]; exact hne
      clear hf hne
      generalize f'.id = fi at *
      go_wp2
      exact ⟨⟨k + 1, by omega, by go_num⟩, by simp [intOf]; omega⟩
    · obtain rfl : k = n := by omega
      have h2 := HQ.out.fid HN.out.1
      have hne2 : ((f.id : Int) == i) = true := by rw [beq_iff_eq]; exact HID.out
      clear HN HID HQ
      generalize f.id = fi at *
      go_wp2
      go_ret
      exact ⟨rfl, rfl⟩

theorem ruse_none (h : Rm w q g cap l nxt) (hl : l.length ≤ 32) (i : Int) (hi : the l i = none) :
    Calls Tryz.prog 46 #[.pointer (some ⟨q, 0, none⟩), .int .i64 i] w fun e w' => e = .returned (.tuple #[.int .i64 0, .int .i64 0]) ∧ w' = w := by
  have HF := hid (rat_none h hl i hi)
  clear h hi
  go_enter Tryz.func46, Tryz.ntmps46
  go_wp2_with (go_at_call 107; refine HF.out.mono ?_; rintro e w' ⟨rfl, rfl⟩)
  go_ret2
  exact ⟨rfl, rfl⟩
set_option maxHeartbeats 1000000 in
theorem ruse_some {N : Nat} (h : Rm w q g cap l nxt) (hI : Inv N l nxt) (i : Int) (f : Fac) (hi : the l i = some f) :
    Calls Tryz.prog 46 #[.pointer (some ⟨q, 0, none⟩), .int .i64 i] w fun e w' => e = .returned (.tuple #[.int .i64 (useOf l f : Int), .int .i64 ((kids l i).length : Int)]) ∧ w' = w := by
  have hl := hI.few
  obtain ⟨n, hn, hnl, hidn, hno⟩ := the_at hi
  have HF := hid (rat_some h hl i f n hn hidn hno)
  have hks := hI.kids_sum (the_some hi).1
  have hu : useOf l f = f.chg + (kids l i).sum := by unfold useOf; rw [hidn]
  rw [hu] at hks ⊢
  have c0 := h.c0
  have c3 := h.fchg hn
  have HQ := hid h
  have hub : f.chg + (kids l i).sum ≤ 1073741824 := by omega
  clear h hi hidn hno hn hks hu hI
  generalize f.chg = ch at *
  go_enter Tryz.func46, Tryz.ntmps46
  go_wp2_with (go_at_call 107; refine HF.out.mono ?_; rintro e w' ⟨rfl, rfl⟩)
  go_loop [7, 8, 9] (fun u c t => ∃ k : Nat, k ≤ l.length ∧ t = .int .i64 (k : Int) ∧ u = .int .i64 ((ch + (kids (l.take k) i).sum : Nat) : Int) ∧ c = .int .i64 ((kids (l.take k) i).length : Int)) (fun _ _ t => l.length - (intOf t).toNat)
  case atStart => exact ⟨0, Nat.zero_le _, rfl, rfl, rfl⟩
  case round =>
    obtain ⟨k, hk, rfl, rfl, rfl⟩ := hrel
    by_cases hlt : k < l.length
    · obtain ⟨x, hx⟩ : ∃ x, l[k]? = some x := ⟨_, List.getElem?_eq_getElem hlt⟩
      have h1 := HQ.out.fpar hx
      have h2 := HQ.out.flim hx
      have hkl := kids_take_len l k i
      have hk1 := kids_next hx i
      have hk2 : (kids (l.take (k + 1)) i).sum ≤ (kids l i).sum := by
        unfold kids
        exact sub_sum (List.Sublist.filterMap _ (List.take_sublist _ _))
      have HK := hid hk1
      rw [hk1] at hk2
      clear hk1 hx
      by_cases hp : x.par = i
      · have hp' : (x.par == i) = true := by rw [beq_iff_eq]; exact hp
        rw [if_pos hp] at hk2 HK
        rw [List.sum_append] at hk2
        simp only [List.sum_cons, List.sum_nil, Nat.add_zero] at hk2
        have HKS : Hid ((kids (l.take (k + 1)) i).sum = (kids (l.take k) i).sum + x.lim ∧ (kids (l.take (k + 1)) i).length = (kids (l.take k) i).length + 1) := by rw [HK.out, List.sum_append, List.length_append]; exact hid ⟨rfl, rfl⟩
        clear HK
        generalize (kids (l.take k) i).sum = K at *
        generalize (kids (l.take k) i).length = KL at *
        generalize (kids l i).sum = KS at *
        generalize x.lim = m2 at *
        generalize x.par = fp at *
        clear hp
        go_wp2_with fail
        exact ⟨⟨k + 1, by omega, by go_num, by rw [HKS.out.1]; go_num, by rw [HKS.out.2]; go_num⟩, by simp [intOf]; omega⟩
      · have hp' : (x.par == i) = false := by rw [beq_eq_false_iff_ne]; exact hp
        rw [if_neg hp, List.append_nil] at HK
        generalize x.par = fp at *
        clear hp hk2
        go_wp2_with fail
        exact ⟨⟨k + 1, by omega, by go_num, by rw [HK.out], by rw [HK.out]⟩, by simp [intOf]; omega⟩
    · obtain rfl : k = l.length := by omega
      rw [List.take_length]
      go_wp2_with fail
      go_ret2
      exact ⟨rfl, rfl⟩

set_option maxHeartbeats 1000000 in
theorem rfits_any {N : Nat} (h : Rm w q g cap l nxt) (hI : Inv N l nxt) (i n : Int) (f : Fac) (hi : the l i = some f) :
    Calls Tryz.prog 108 #[.pointer (some ⟨q, 0, none⟩), .int .i64 i, .int .i64 n] w fun e w' => e = .returned (.bool (decide (n ≤ (f.lim : Int) - (useOf l f : Int)))) ∧ ∃ k, w' = w.drewN k := by
  have hl := hI.few
  obtain ⟨k, hk, hkl, hidn, hno⟩ := the_at hi
  have HU := hid (ruse_some h hI i f hi)
  have HF := hid (fun z => rat_some (h.drewN z) hl i f k hk hidn hno)
  have hks := hI.kids_sum (the_some hi).1
  have c0 := h.c0
  have c2 := h.flim hk
  have hk0 : (0 : Int) ≤ (k : Int) := by omega
  have hk1 : (k : Int) < (l.length : Int) := by omega
  have hk2 := hks.1
  have hk3 := hks.2.1
  clear h hi hidn hno hk hI hks
  generalize useOf l f = u at *
  generalize f.lim = m at *
  go_enter Tryz.func108, Tryz.ntmps108
  go_wp2_with (go_at_call 46; refine HU.out.mono ?_; rintro e w' ⟨rfl, rfl⟩)
  go_quiet ((go_at_call 107; exact Calls.quiet_of_same (HF.out _)))
  go_wp2_with fail
  go_ret
  exact ⟨rfl, nq, rfl⟩

set_option maxHeartbeats 1000000 in
theorem rnew_any (m : Nat) (w : World) : Calls Tryz.prog 97 #[.int .i64 (m : Int)] w fun e w' => ∃ q g cap, e = .returned (.pointer (some ⟨q, 0, none⟩)) ∧ Rm w' q g cap [⟨0, -1, m, 0⟩] 1 ∧ w.heap.size ≤ q ∧ w.heap.size ≤ g ∧ Below w.heap.size w w' := by
  have hb : Below w.heap.size w ((w.alloc (.cells #[.int .i64 0, .int .i64 (-1), .int .i64 (m : Int), .int .i64 0] 168)).alloc (.cells #[.slice (some ⟨w.heap.size, 0, none⟩) 1 1, .int .i64 1] 166)) := ((Below.refl _ _).alloc (Nat.le_refl _) _).alloc (by simp) _
  go_enter Tryz.func97, Tryz.ntmps97
  go_wp2_with fail
  go_ret
  refine ⟨_, w.heap.size, 1, rfl, ⟨?_, ?_, by simp⟩, by simp, Nat.le_refl _, hb⟩
  · have := heap_alloc_new (w.alloc (.cells #[.int .i64 0, .int .i64 (-1), .int .i64 (m : Int), .int .i64 0] 168)) (.cells #[.slice (some ⟨w.heap.size, 0, none⟩) 1 1, .int .i64 1] 166)
    simpa using this
  · refine ⟨rfl, .inr ⟨w.heap.size, 1, #[.int .i64 0, .int .i64 (-1), .int .i64 (m : Int), .int .i64 0], rfl, Nat.zero_le _, ?_, Nat.le_refl _, by unfold maxLen; omega, rfl, rfl⟩⟩
    rw [Below.heap_alloc _ _ _ (by simp)]
    exact heap_alloc_new _ _
end
end Go.Proofs.YtdmnemgooagehaaGreatDoor.Qu
