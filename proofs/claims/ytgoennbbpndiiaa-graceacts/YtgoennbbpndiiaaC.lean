/- Contracts of List and Left, and of a nil queue. -/
import Derived.Test.YtgoennbbpndiiaaB
namespace Go.Proofs.Ytgoennbbpndiiaa
open Go.RowKit Go.Maps Go.Shelf

/-- One number more, in a row of one's own. -/
theorem num_append {w : World} {base : Nat} {v : Value} {l : List Int} (h : OR w base 1 v l.length (nums l)) (hn : l.length ≤ 1000000) (hb : base ≤ w.heap.size) (x : Int) (H : Nat) (hH : w.heap.size = H) :
    ∃ a cap w', (Builtin.append_ #[29, 29] 29 #[v, .slice (some ⟨H, 0, none⟩) 1 1]).run Try.prog (w.alloc (.cells #[.int .i64 x] 3)) = .ok (.slice a (l.length + 1) cap) w' ∧
      OR w' base 1 (.slice a (l.length + 1) cap) (l ++ [x]).length (nums (l ++ [x])) ∧ Below base w w' := by
  subst hH
  obtain ⟨i0, hi, hz0, hz1, hz2⟩ := info_parts info3
  have hA : (w.alloc (.cells #[.int .i64 x] 3)).heap[w.heap.size]? = some (.cells #[.int .i64 x] 3) := heap_alloc_new _ _
  obtain ⟨v', w', hr, ho, hg, _⟩ := OR.append (P := Try.prog) 29 29 3 i0 _ 1 8 Try.underlying29 hi hz0 hz1 hz2 rfl (by decide) (h.alloc (.cells #[.int .i64 x] 3)) ⟨w.heap.size, 0, none⟩ 1 1
    [.int .i64 x] rfl (fun j u hj => by
      rw [addr_add, Nat.zero_add, cell_of_row _ _ _ _ _ _ hA, ← hj]
      match j, hj with
      | 0, _ => rfl) (fun u hu => by simp at hu; subst hu; rfl) (by unfold maxLen; omega) (by omega) (by simp; omega)
  obtain ⟨a, cap, rfl, _⟩ := ho.slice
  refine ⟨a, cap, w', hr, ?_, ((Below.refl base w).alloc hb _).grown hg (by simp; omega) (fun k e => (h.own k e).1)⟩
  rw [nums_append, List.length_append]
  exact ho

/-- A row of numbers is answered. -/
def LsPost (w : World) (l : List Int) (e : Ending) (w' : World) : Prop := ∃ v, e = .returned v ∧ OR w' w.heap.size 1 v l.length (nums l) ∧ Below w.heap.size w w'
section
variable {w : World} {b : Nat} {v : Value} {p : Int} {l : List (Int × Int)}
theorem Qu.at (h : Qu w b v p l) {k : Nat} {t : Int × Int} (ht : l[k]? = some t) : ∃ g off cap, v = .slice (some ⟨g, off, none⟩) l.length cap ∧ w.cell? ⟨g, off + k * 2, none⟩ = some (.int .i64 t.1) ∧ w.cell? ⟨g, off + k * 2 + 1, none⟩ = some (.int .i64 t.2) := by
  obtain ⟨a, cap, rfl, _⟩ := h.row.slice
  obtain ⟨g, off, rfl, _, c0⟩ := h.row.at (flat_at ht).1
  obtain ⟨g', off', e, _, c1⟩ := h.row.at (flat_at ht).2
  obtain ⟨rfl, rfl⟩ : g = g' ∧ off = off' := by simpa using e
  exact ⟨g, off, cap, rfl, c0, by rw [Nat.add_assoc]; exact c1⟩

set_option maxRecDepth 100000 in
set_option maxHeartbeats 1000000 in
theorem list_any (h : Qu w b v p l) (hl : l.length ≤ 100000) : Calls Try.prog 12 #[.pointer (some ⟨b, 0, none⟩)] w (LsPost w (l.map (·.1))) := by
  obtain ⟨a, cap, rfl, _⟩ := h.row.slice
  have HQ := hid h
  clear h
  go_enter Try.func12, Try.ntmps12
  go_wp2_with (go_at_call 18; refine (all_any HQ.out).mono ?_; rintro e w' ⟨rfl, rfl⟩)
  go_loopw [9, 3] (fun c u wr => ∃ k : Nat, k ≤ l.length ∧ c = .int .i64 (k : Int) ∧ Hid (Below w'.heap.size w' wr ∧ OR wr w'.heap.size 1 u ((l.map (·.1)).take k).length (nums ((l.map (·.1)).take k)))) (fun c _ _ => l.length - (intOf c).toNat)
  case atStart => exact ⟨0, Nat.zero_le _, rfl, Below.refl _ _, OR.nil _ _ _⟩
  case round =>
    obtain ⟨k, hk, rfl, hS⟩ := hrel
    by_cases hlt : k < l.length
    · have hk2 := List.getElem?_eq_getElem hlt
      have hq := HQ.out.below hS.out.1 (Nat.le_refl _)
      obtain ⟨g, off, cap2, ev, c0, c1⟩ := hq.at hk2
      obtain ⟨rfl, _⟩ : a = some ⟨g, off, none⟩ ∧ cap = cap2 := by simpa using ev
      have e2 : (l.map (·.1)).take (k + 1) = (l.map (·.1)).take k ++ [l[k].1] := by rw [List.take_add_one, List.getElem?_map, hk2]; rfl
      have hlen : ((l.map (·.1)).take k).length ≤ 1000000 := by rw [List.length_take, List.length_map]; omega
      obtain ⟨a3, cap3, w3, hr, ho3, hb3⟩ := num_append (hS.out.2.alloc (.cells #[.int .i64 l[k].1, .int .i64 l[k].2] 46)) hlen (by have := hS.out.1.size; simp; omega) l[k].1 (wr.heap.size + 1) (by simp)
      rw [← e2] at ho3
      have H3 := hid (And.intro ((hS.out.1.alloc hS.out.1.size _).trans hb3) ho3)
      have hu := hS.out.2
      obtain ⟨a4, cap4, rfl, _⟩ := hu.slice
      clear hk2 hq e2 hS ho3 hb3 HQ hu hlen
      obtain ⟨n2, hn2⟩ : ∃ n2, n2 = ((l.map (·.1)).take k).length + 1 := ⟨_, rfl⟩
      rw [← hn2] at hr H3
      clear hn2
      generalize ((l.map (·.1)).take k).length = n at *
      generalize l[k].1 = x at *
      generalize l[k].2 = t at *
      go_wp2_with (at_builtin; refine wpList_append_run rfl _ _ 29 29 rfl _ _ _ rfl rfl hr ?_)
      exact ⟨⟨k + 1, by omega, by go_num, H3⟩, by simp [intOf]; omega⟩
    · obtain rfl : k = l.length := by omega
      have e : (l.map (·.1)).take l.length = l.map (·.1) := List.take_of_length_le (by simp)
      rw [e] at hS
      go_wp2
      go_ret
      exact ⟨_, rfl, hS.out.2, hS.out.1⟩
theorem list_nil (w : World) : Calls Try.prog 12 #[.pointer none] w (LsPost w []) := by
  go_enter Try.func12, Try.ntmps12
  go_wp2_with (go_at_call 18; refine (all_nil _).mono ?_; rintro e w' ⟨rfl, rfl⟩)
  go_loopw [9, 3] (fun c u wr => c = .int .i64 0 ∧ u = .slice none 0 0 ∧ wr = w') (fun _ _ _ => 0)
  case atStart => exact ⟨rfl, rfl, rfl⟩
  case round =>
    obtain ⟨rfl, rfl, rfl⟩ := hrel
    go_wp2
    go_ret
    exact ⟨_, rfl, OR.nil _ _ _, Below.refl _ _⟩
theorem add_nil (w : World) (a : Option Addr) (n cap : Nat) : Calls Try.prog 10 #[.pointer none, .slice a n cap] w fun e w' => e = .returned (.int .i64 0) ∧ w' = w := by
  go_enter Try.func10, Try.ntmps10
  go_wp2
  go_ret
  exact ⟨rfl, rfl⟩

/-- How many ticks are left of the first one that is x. -/
def leftA (l : List (Int × Int)) (x : Int) : Int := match l.find? (fun t => t.1 == x) with
  | some t => t.2
  | none => 0
theorem leftA_hit {l : List (Int × Int)} {x : Int} {k : Nat} {t : Int × Int} (hk : l[k]? = some t) (ht : t.1 = x) (hn : ∀ (j : Nat) t, j < k → l[j]? = some t → t.1 ≠ x) : leftA l x = t.2 := by
  have : l.find? (fun t => t.1 == x) = some t := by
    rw [List.find?_eq_some_iff_getElem]
    obtain ⟨hl, e⟩ := List.getElem?_eq_some_iff.1 hk
    exact ⟨by simp [ht], k, hl, e, fun j hj => by
      have := hn j l[j] hj (List.getElem?_eq_getElem (by omega))
      simp [this]⟩
  unfold leftA
  rw [this]
theorem leftA_miss {l : List (Int × Int)} {x : Int} (hn : ∀ (j : Nat) t, l[j]? = some t → t.1 ≠ x) : leftA l x = 0 := by
  have : l.find? (fun t => t.1 == x) = none := by
    rw [List.find?_eq_none]
    intro t ht
    obtain ⟨j, hj⟩ := List.getElem?_of_mem ht
    have := hn j t hj
    simp [this]
  unfold leftA
  rw [this]

set_option maxRecDepth 100000 in
set_option maxHeartbeats 1000000 in
theorem left_any (h : Qu w b v p l) (hl : l.length ≤ 100000) (x : Int) : Calls Try.prog 13 #[.pointer (some ⟨b, 0, none⟩), .int .i64 x] w fun e w' => e = .returned (.int .i64 (leftA l x)) ∧ Below w.heap.size w w' := by
  obtain ⟨a, cap, rfl, _⟩ := h.row.slice
  have HQ := hid h
  obtain ⟨y, hy⟩ : ∃ y, y = leftA l x := ⟨_, rfl⟩
  rw [← hy]
  have HY := hid hy
  clear h hy
  go_enter Try.func13, Try.ntmps13
  go_wp2_with (go_at_call 18; refine (all_any HQ.out).mono ?_; rintro e w' ⟨rfl, rfl⟩)
  go_loopw [10] (fun c wr => ∃ k : Nat, k ≤ l.length ∧ c = .int .i64 (k : Int) ∧ Hid (Below w'.heap.size w' wr ∧ ∀ (j : Nat) t, j < k → l[j]? = some t → t.1 ≠ x)) (fun c _ => l.length - (intOf c).toNat)
  case atStart => exact ⟨0, Nat.zero_le _, rfl, Below.refl _ _, fun j t hj => by omega⟩
  case round =>
    obtain ⟨k, hk, rfl, hS⟩ := hrel
    by_cases hlt : k < l.length
    · have hk2 := List.getElem?_eq_getElem hlt
      have hq := HQ.out.below hS.out.1 (Nat.le_refl _)
      obtain ⟨g, off, cap2, ev, c0, c1⟩ := hq.at hk2
      obtain ⟨rfl, _⟩ : a = some ⟨g, off, none⟩ ∧ cap = cap2 := by simpa using ev
      by_cases hx : l[k].1 = x
      · have hd : (l[k].1 == x) = true := by simpa using hx
        have HE : Hid (y = l[k].2) := hid (HY.out.trans (leftA_hit hk2 hx hS.out.2))
        have HB : Hid (Below w'.heap.size w' (wr.alloc (.cells #[.int .i64 l[k].1, .int .i64 l[k].2] 46))) := hid (hS.out.1.alloc hS.out.1.size _)
        clear hk2 hq hx hS HQ HY
        generalize l[k].1 = z at *
        generalize l[k].2 = t at *
        go_wp2
        go_ret
        exact ⟨ret_int HE.out.symm, HB.out⟩
      · have hd : (l[k].1 == x) = false := by rw [beq_eq_false_iff_ne]; exact hx
        have H3 := hid (And.intro (hS.out.1.alloc hS.out.1.size (.cells #[.int .i64 l[k].1, .int .i64 l[k].2] 46)) (show ∀ (j : Nat) t, j < k + 1 → l[j]? = some t → t.1 ≠ x from fun j t hj ht => by
          by_cases e : j = k
          · subst e
            rw [hk2] at ht
            obtain rfl : l[j] = t := by simpa using ht
            exact hx
          · exact hS.out.2 j t (Nat.lt_of_le_of_ne (Nat.lt_succ_iff.1 hj) e) ht))
        clear hk2 hq hx hS HQ HY
        generalize l[k].1 = z at *
        generalize l[k].2 = t at *
        go_wp2
        exact ⟨⟨k + 1, by omega, by go_num, H3⟩, by simp [intOf]; omega⟩
    · obtain rfl : k = l.length := by omega
      have HE : Hid (y = 0) := hid (HY.out.trans (leftA_miss (fun j t ht => hS.out.2 j t (List.getElem?_eq_some_iff.1 ht).1 ht)))
      go_wp2
      go_ret
      exact ⟨ret_int HE.out.symm, hS.out.1⟩
theorem left_nil (x : Int) (w : World) : Calls Try.prog 13 #[.pointer none, .int .i64 x] w fun e w' => e = .returned (.int .i64 0) ∧ w' = w := by
  go_enter Try.func13, Try.ntmps13
  go_wp2_with (go_at_call 18; refine (all_nil _).mono ?_; rintro e w' ⟨rfl, rfl⟩)
  go_loopw [10] (fun c wr => c = .int .i64 0 ∧ wr = w') (fun _ _ => 0)
  case atStart => exact ⟨rfl, rfl⟩
  case round =>
    obtain ⟨rfl, rfl⟩ := hrel
    go_wp2
    go_ret
    exact ⟨rfl, rfl⟩
end
end Go.Proofs.Ytgoennbbpndiiaa
