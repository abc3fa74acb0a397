/- The document's allocator by lists: contracts of Size, find, cut and put. -/
import Derived.Test.YtdmnemgooagehaaGreatDoorV1
import Derived.Test.YtdmnemgooagehaaGreatDoorM3
import Derived.Deep.RegionHeld3
import Derived.Deep.AppendLies
namespace Go.Proofs.YtdmnemgooagehaaGreatDoor
open Go.RowKit Go.Maps

theorem best_least {B : St} {L : List (Nat × Nat)} (hL : Lst B .free L) {o j p k : Nat} (hj : L[j]? = some (p, k)) (ho : o ≤ k) (h1 : ∀ j' p' k' : Nat, j' < L.length → L[j']? = some (p', k') → o ≤ k' → k ≤ k') (h2 : ∀ j' p' k' : Nat, j' < j → L[j']? = some (p', k') → o ≤ k' → k < k') :
    ∃ n, p = n * 2 ^ k ∧ Least B o k n := by
  obtain ⟨n, rfl, hb⟩ := (hL.mem p k).1 (List.mem_of_getElem? hj)
  have look : ∀ k' n', B k' n' = .free → ∃ j', L[j']? = some (n' * 2 ^ k', k') := fun k' n' hb' => by
    obtain ⟨j', hj', e⟩ := List.getElem_of_mem ((hL.mem _ _).2 ⟨n', rfl, hb'⟩)
    exact ⟨j', by rw [List.getElem?_eq_getElem hj', e]⟩
  refine ⟨n, rfl, ho, hb, fun n' hn' hb' => ?_, fun k' n' hk1 hk2 hb' => ?_⟩
  · obtain ⟨j', e⟩ := look k n' hb'
    have hlt := rise_lt hL.rise e hj (Nat.mul_lt_mul_of_pos_right hn' (Nat.two_pow_pos _))
    have := h2 j' _ k hlt e ho
    omega
  · obtain ⟨j', e⟩ := look k' n' hb'
    have := h1 j' _ k' (List.getElem?_eq_some_iff.1 e).1 e hk1
    omega
theorem least_one {B : St} {o k i k' i' : Nat} (h : Least B o k i) (h' : Least B o k' i') : k = k' ∧ i = i' := by
  have e : k = k' := by
    apply Decidable.byContradiction
    intro hne
    by_cases hlt : k < k'
    · exact h'.2.2.2 k i h.1 hlt h.2.1
    · exact h.2.2.2 k' i' h'.1 (by omega) h'.2.1
  subst e
  refine ⟨rfl, ?_⟩
  apply Decidable.byContradiction
  intro hne
  by_cases hlt : i < i'
  · exact h'.2.2.1 i hlt h.2.1
  · exact h.2.2.1 i' (by omega) h'.2.1

theorem rsize_any (k : Nat) (w : World) (h : k ≤ 20) :
    Calls Tryz.prog 81 #[.int .i64 (k : Int)] w fun e w' => e = .returned (.int .i64 ((1024 * 2 ^ k : Nat) : Int)) ∧ w' = w := by
  go_enter Tryz.func81, Tryz.ntmps81
  go_wp2_with fail
  go_loop [3, 4] (fun t i => ∃ j q : Nat, j ≤ k ∧ i = .int .i64 (j : Int) ∧ t = .int .i64 (q : Int) ∧ Hid (q = 1024 * 2 ^ j)) (fun _ i => k - (intOf i).toNat)
  case atStart => exact ⟨0, 1024, Nat.zero_le _, rfl, rfl, rfl⟩
  case round =>
    obtain ⟨j, q, hj, rfl, rfl, hq⟩ := hrel
    have hqb : q ≤ 1073741824 := by rw [hq.out]; have := pow_le20 (show j ≤ 20 by omega); omega
    by_cases hlt : j < k
    · go_wp2_with fail
      go_round
      case rel => exact ⟨j + 1, q * 2, by omega, by go_num, by go_num, hid (by rw [hq.out, Nat.pow_succ, Nat.mul_assoc])⟩
      case measure => simp [intOf]; omega
    · have hnl : ¬ ((j : Int) < (k : Int)) := by omega
      go_wp2_with fail
      go_ret
      exact ⟨ret_int (by rw [hq.out, show j = k from by omega]; simp), rfl⟩

def FindPost (L : List (Nat × Nat)) (a : Int) (w : World) (e : Ending) (w' : World) : Prop :=
  ∃ r : Int, e = .returned (.int .i64 r) ∧ w' = w ∧ ((r = -1 ∧ ∀ j p k : Nat, L[j]? = some (p, k) → ((p * 1024 : Nat) : Int) ≠ a) ∨ ∃ j p k : Nat, r = (j : Int) ∧ L[j]? = some (p, k) ∧ ((p * 1024 : Nat) : Int) = a)
theorem find_any (w : World) (L : List (Nat × Nat)) (aL : Option Addr) (b c : Nat) (a : Int) (hR : Rd w b aL L) (hl : L.length ≤ 100000000) :
    Calls Tryz.prog 136 #[.slice aL L.length c, .int .i64 a] w (FindPost L a w) := by
  have HR := hid hR
  clear hR
  go_enter Tryz.func136, Tryz.ntmps136
  go_wp2_with fail
  go_loop [5] (fun t => ∃ i : Nat, i ≤ L.length ∧ t = .int .i64 (i : Int) ∧ Hid (∀ j p k : Nat, j < i → L[j]? = some (p, k) → ((p * 1024 : Nat) : Int) ≠ a)) (fun t => L.length - (intOf t).toNat)
  case atStart => exact ⟨0, Nat.zero_le _, rfl, fun j p k hj => by omega⟩
  case round =>
    obtain ⟨i, hi, rfl, hn⟩ := hrel
    by_cases hlt : i < L.length
    · obtain ⟨⟨p, k⟩, hx⟩ : ∃ x, L[i]? = some x := ⟨_, List.getElem?_eq_getElem hlt⟩
      obtain ⟨g, rfl, c0, c1⟩ := HR.out.at hx
      have hi1 : (i : Int) < (L.length : Int) := by omega
      have HX := hid hx
      obtain ⟨z, hz⟩ : ∃ z : Int, z = ((p * 1024 : Nat) : Int) := ⟨_, rfl⟩
      rw [← hz] at c0
      have HZ := hid hz
      clear hx hz
      by_cases he : z = a
      · subst he
        go_wp2_with fail
        go_ret
        exact ⟨_, rfl, rfl, .inr ⟨i, p, k, rfl, HX.out, HZ.out.symm⟩⟩
      · have he' : (z == a) = false := by simpa using he
        go_wp2_with fail
        go_round
        case rel =>
          refine ⟨i + 1, by omega, by go_num, fun j p' k' hj hx' => ?_⟩
          by_cases e : j = i
          · subst e
            have h2 := HX.out
            rw [hx'] at h2
            obtain ⟨rfl, rfl⟩ : p' = p ∧ k' = k := by simpa using h2
            rw [← HZ.out]; exact he
          · exact hn.out j p' k' (by omega) hx'
        case measure => simp [intOf]; omega
    · obtain rfl : i = L.length := by omega
      go_wp2_with fail
      go_ret
      exact ⟨_, rfl, rfl, .inl ⟨rfl, fun j p k hx => hn.out j p k (List.getElem?_eq_some_iff.1 hx).1 hx⟩⟩

theorem bcells_append (A B : List (Nat × Nat)) : bcells (A ++ B) = bcells A ++ bcells B := by simp [bcells]
theorem bcells_one (u : Value) (L : List (Nat × Nat)) (h : u ∈ bcells L) : u.oneCell' = true := by
  unfold bcells at h
  obtain ⟨x, _, hx⟩ := List.mem_flatMap.1 h
  simp [encB] at hx
  rcases hx with rfl | rfl <;> rfl
theorem Rd.flat {w : World} {base g : Nat} {L : List (Nat × Nat)} (h : Rd w base (some ⟨g, 0, none⟩) L) {t : Nat} {u : Value} (hu : (bcells L)[t]? = some u) : w.cell? ⟨g, t, none⟩ = some u := by
  have ht : t < L.length * 2 := by rw [← bcells_length]; exact (List.getElem?_eq_some_iff.1 hu).1
  rw [bcells_get L t ht] at hu
  obtain ⟨⟨p, k⟩, hx⟩ : ∃ x, L[t / 2]? = some x := ⟨_, List.getElem?_eq_getElem (by omega)⟩
  obtain ⟨g', e, c0, c1⟩ := h.at hx
  obtain rfl : g = g' := by simpa using e
  have hx2 : L[t / 2]! = (p, k) := by
    obtain ⟨hl, he⟩ := List.getElem?_eq_some_iff.1 hx
    rw [getElem!_pos L _ hl, he]
  rw [hx2] at hu
  rw [← hu]
  rcases Nat.mod_two_eq_zero_or_one t with h0 | h0
  · rw [h0]
    rw [show t / 2 * 2 = t from by omega] at c0
    exact c0
  · rw [h0]
    rw [show t / 2 * 2 + 1 = t from by omega] at c1
    exact c1
theorem news_take {w : World} {base g : Nat} {L : List (Nat × Nat)} (h : Rd w base (some ⟨g, 0, none⟩) L) (i : Nat) : ∀ j u, (bcells (L.take i))[j]? = some u → w.cell? ((⟨g, 0, none⟩ : Addr).add j) = some u := by
  intro j u hj
  rw [addr_add, Nat.zero_add]
  refine h.flat ?_
  have e : bcells L = bcells (L.take i) ++ bcells (L.drop i) := by rw [← bcells_append, List.take_append_drop]
  rw [e, List.getElem?_append_left (List.getElem?_eq_some_iff.1 hj).1]
  exact hj
theorem news_drop {w : World} {base g : Nat} {L : List (Nat × Nat)} (h : Rd w base (some ⟨g, 0, none⟩) L) (i : Nat) (hi : i ≤ L.length) : ∀ j u, (bcells (L.drop i))[j]? = some u → w.cell? ((⟨g, i * 2, none⟩ : Addr).add j) = some u := by
  intro j u hj
  rw [addr_add]
  refine h.flat ?_
  have e : bcells L = bcells (L.take i) ++ bcells (L.drop i) := by rw [← bcells_append, List.take_append_drop]
  have hl : (bcells (L.take i)).length = i * 2 := by rw [bcells_length, List.length_take, Nat.min_eq_left hi]
  rw [e, List.getElem?_append_right (by omega), hl, Nat.add_sub_cancel_left]
  exact hj

/-- A slice of blocks with a cap that may be. -/
def Slc (w : World) (base : Nat) (v : Value) (L : List (Nat × Nat)) : Prop := ∃ a cap, v = .slice a L.length cap ∧ Rd w base a L ∧ L.length ≤ cap ∧ cap ≤ 9223372036854775807 ∧ ((a = none ∧ L.length = 0 ∧ cap = 0) ∨ ∃ g, a = some ⟨g, 0, none⟩)
theorem slc_of {w : World} {base : Nat} {v : Value} {L : List (Nat × Nat)} (h : w.ownsRow base 132 2 v L.length (bcells L)) : Slc w base v L := by
  obtain ⟨a, cap, rfl, hr⟩ := rd_of h
  rcases h.2 with ⟨e, h0⟩ | ⟨g, cap', cur, e, _, _, h1, h2, _⟩
  · have h3 : a = none ∧ L.length = 0 ∧ cap = 0 := by simpa using e
    exact ⟨a, cap, rfl, hr, by omega, by omega, .inl h3⟩
  · have h3 : a = some ⟨g, 0, none⟩ ∧ cap = cap' := by simpa using e
    exact ⟨a, cap, rfl, hr, by omega, by unfold maxLen at h2; omega, .inr ⟨g, h3.1⟩⟩
theorem Slc.below {w w' : World} {base : Nat} {v : Value} {L : List (Nat × Nat)} (h : Slc w base v L) (hb : Below w.heap.size w w') : Slc w' base v L := by
  obtain ⟨a, cap, e, hr, h1⟩ := h
  exact ⟨a, cap, e, hr.below hb, h1⟩

def CutPost (L : List (Nat × Nat)) (i : Nat) (w : World) (e : Ending) (w' : World) : Prop := ∃ v, e = .returned v ∧ Slc w' w.heap.size v (L.eraseIdx i) ∧ Below w.heap.size w w'

set_option maxHeartbeats 2000000 in
set_option maxRecDepth 100000 in
theorem cut_at (w : World) (L : List (Nat × Nat)) (b c i g : Nat) (hR : Rd w b (some ⟨g, 0, none⟩) L) (hl : L.length ≤ 100000000) (hi : i < L.length) (hc : L.length ≤ c) (hcm : c ≤ 9223372036854775807) (hce : c ≠ i + 1) :
    Calls Tryz.prog 87 #[.slice (some ⟨g, 0, none⟩) L.length c, .int .i64 (i : Int)] w (CutPost L i w) := by
  obtain ⟨i0, hi0, hz0, hz1, hz2⟩ := info_parts info44
  have HIF := hid (And.intro hi0 (And.intro hz0 (And.intro hz1 hz2)))
  have HR := hid hR
  have hi1 : (i : Int) < (L.length : Int) := by omega
  have hi2 : (0 : Int) ≤ (i : Int) := by omega
  have hi3 : (i : Int) ≤ (c : Int) := by omega
  have hi4 : (i : Int) + 1 ≤ (L.length : Int) := by omega
  have hi5 : (0 : Int) ≤ (i : Int) + 1 := by omega
  have hi6 : (L.length : Int) ≤ (c : Int) := by omega
  have hi7 : (i : Int) + 1 ≤ (c : Int) := by omega
  have hwi : IntKind.i64.wrap ((i : Int) + 1) = (i : Int) + 1 := wrap_i _ (by omega) (by omega)
  clear hR hi0 hz0 hz1 hz2
  go_enter Tryz.func87, Tryz.ntmps87
  go_wp2_with fail
  have hlt1 : (L.take i).length = i := by rw [List.length_take]; omega
  have hlt2 : (L.drop (i + 1)).length = L.length - (i + 1) := by rw [List.length_drop]
  have hn1 : (bcells (L.take i)).length = i * 2 := by rw [bcells_length, hlt1]
  have hn2 : (bcells (L.drop (i + 1))).length = (L.length - (i + 1)) * 2 := by rw [bcells_length, hlt2]
  have hB0 : Below w.heap.size w ((w.drew).alloc (.cells #[] 132)) := ((Below.refl w.heap.size w).drew.alloc (Nat.le_refl _) _)
  have hO0 : ((w.drew).alloc (.cells #[] 132)).ownsRow w.heap.size 132 2 (.slice (some ⟨w.heap.size, 0, none⟩) 0 0) 0 [] := World.ownsRow_lit w.drew #[] 0 (Nat.le_refl _) (by unfold maxLen; omega) rfl
  have hN0 := news_take (HR.out.below hB0) i
  have hN1 : ∀ wx, Below w.heap.size w wx → ∀ j u, (bcells (L.drop (i + 1)))[j]? = some u → wx.cell? ((⟨g, (i + 1) * 2, none⟩ : Addr).add j) = some u := fun wx hx => news_drop (HR.out.below hx) (i + 1) (by omega)
  have HE := hid (And.intro hlt1 (And.intro hlt2 (And.intro hn1 (And.intro hn2 (And.intro hB0 (And.intro hO0 (And.intro hN0 hN1)))))))
  clear hlt1 hlt2 hn1 hn2 hB0 hO0 hN0 hN1
  go_region_held3 (fun _ => True) (trivial)
    (first
      | (refine step_append_any _ (by rfl) _ _ _ (by rfl) w.heap.size 132 i0 (.agg #[.int .i64 0, .int .i64 0]) 2 16 Tryz.underlying50 HIF.out.1 HIF.out.2.1 HIF.out.2.2.1 HIF.out.2.2.2 rfl (by decide) (.slice (some ⟨w.heap.size, 0, none⟩) 0 0) 0 [] (by rfl) HE.out.2.2.2.2.2.1 ⟨g, 0, none⟩ i c (bcells (L.take i)) (by rfl) HE.out.2.2.1 HE.out.2.2.2.2.2.2.1 (fun u hu => bcells_one u _ hu) (by unfold maxLen; omega) (by omega) (by simp) ?_; intro v1 w1 hown1 hg1)
      | (refine step_append_any _ (by rfl) _ _ _ (by rfl) w.heap.size 132 i0 (.agg #[.int .i64 0, .int .i64 0]) 2 16 Tryz.underlying50 HIF.out.1 HIF.out.2.1 HIF.out.2.2.1 HIF.out.2.2.2 rfl (by decide) v1 (0 + i) ([] ++ bcells (L.take i)) (by rfl) hown1 ⟨g, (i + 1) * 2, none⟩ (L.length - (i + 1)) (c - (i + 1)) (bcells (L.drop (i + 1))) (by rfl) HE.out.2.2.2.1 (HE.out.2.2.2.2.2.2.2 _ (Below.grown HE.out.2.2.2.2.1 hg1 (by simp) (fun j hj => by cases hj; exact Nat.le_refl _))) (fun u hu => bcells_one u _ hu) (by unfold maxLen; omega) (by omega) (by have := hg1.size; simp at this ⊢; omega) ?_; intro v2 w2 hown2 hg2))
  have hX1 : Below w.heap.size w w1 := Below.grown HE.out.2.2.2.2.1 hg1 (by simp) (fun j hj => by cases hj; exact Nat.le_refl _)
  have hX2 : Below w.heap.size w w2 := Below.grown hX1 hg2 hX1.size (own_block hown1)
  have hsl : Hid (Slc w2 w.heap.size v2 (L.eraseIdx i)) := by
    refine slc_of ?_
    have e : L.eraseIdx i = L.take i ++ L.drop (i + 1) := List.eraseIdx_eq_take_drop_succ L i
    have e2 : (L.eraseIdx i).length = 0 + i + (L.length - (i + 1)) := by rw [e, List.length_append, HE.out.1, HE.out.2.1]; omega
    rw [e2, e, bcells_append]
    simpa using hown2
  clear hown1 hown2 hg1 hg2
  go_wp2_with fail
  go_ret
  exact ⟨_, rfl, hsl.out, hX2⟩

set_option maxHeartbeats 2000000 in
set_option maxRecDepth 100000 in
theorem cut_end (w : World) (L : List (Nat × Nat)) (b c i g : Nat) (hR : Rd w b (some ⟨g, 0, none⟩) L) (hl : L.length ≤ 100000000) (hi : i < L.length) (hc : L.length ≤ c) (hcm : c ≤ 9223372036854775807) (hce : c = i + 1) :
    Calls Tryz.prog 87 #[.slice (some ⟨g, 0, none⟩) L.length c, .int .i64 (i : Int)] w (CutPost L i w) := by
  obtain ⟨i0, hi0, hz0, hz1, hz2⟩ := info_parts info44
  have HIF := hid (And.intro hi0 (And.intro hz0 (And.intro hz1 hz2)))
  have HR := hid hR
  have HCE := hid hce
  have hi1 : (i : Int) < (L.length : Int) := by omega
  have hi2 : (0 : Int) ≤ (i : Int) := by omega
  have hi3 : (i : Int) ≤ (c : Int) := by omega
  have hi4 : (i : Int) + 1 ≤ (L.length : Int) := by omega
  have hi5 : (0 : Int) ≤ (i : Int) + 1 := by omega
  have hi6 : (L.length : Int) ≤ (c : Int) := by omega
  have hi7 : (i : Int) + 1 ≤ (c : Int) := by omega
  have hwi : IntKind.i64.wrap ((i : Int) + 1) = (i : Int) + 1 := wrap_i _ (by omega) (by omega)
  clear hR hi0 hz0 hz1 hz2 hce
  go_enter Tryz.func87, Tryz.ntmps87
  go_wp2_with fail
  have hlt1 : (L.take i).length = i := by rw [List.length_take]; omega
  have hlt2 : (L.drop (i + 1)).length = L.length - (i + 1) := by rw [List.length_drop]
  have hn1 : (bcells (L.take i)).length = i * 2 := by rw [bcells_length, hlt1]
  have hn2 : (bcells (L.drop (i + 1))).length = (L.length - (i + 1)) * 2 := by rw [bcells_length, hlt2]
  have hB0 : Below w.heap.size w ((w.drew).alloc (.cells #[] 132)) := ((Below.refl w.heap.size w).drew.alloc (Nat.le_refl _) _)
  have hO0 : ((w.drew).alloc (.cells #[] 132)).ownsRow w.heap.size 132 2 (.slice (some ⟨w.heap.size, 0, none⟩) 0 0) 0 [] := World.ownsRow_lit w.drew #[] 0 (Nat.le_refl _) (by unfold maxLen; omega) rfl
  have hN0 := news_take (HR.out.below hB0) i
  have hN1 : ∀ wx, Below w.heap.size w wx → ∀ j u, (bcells (L.drop (i + 1)))[j]? = some u → wx.cell? ((⟨g, 0, none⟩ : Addr).add j) = some u := fun wx hx => fun j u hj => by
    rw [List.drop_eq_nil_of_le (by have := HCE.out; omega)] at hj
    simp [bcells] at hj
  have HE := hid (And.intro hlt1 (And.intro hlt2 (And.intro hn1 (And.intro hn2 (And.intro hB0 (And.intro hO0 (And.intro hN0 hN1)))))))
  clear hlt1 hlt2 hn1 hn2 hB0 hO0 hN0 hN1
  go_region_held3 (fun _ => True) (trivial)
    (first
      | (refine step_append_any _ (by rfl) _ _ _ (by rfl) w.heap.size 132 i0 (.agg #[.int .i64 0, .int .i64 0]) 2 16 Tryz.underlying50 HIF.out.1 HIF.out.2.1 HIF.out.2.2.1 HIF.out.2.2.2 rfl (by decide) (.slice (some ⟨w.heap.size, 0, none⟩) 0 0) 0 [] (by rfl) HE.out.2.2.2.2.2.1 ⟨g, 0, none⟩ i c (bcells (L.take i)) (by rfl) HE.out.2.2.1 HE.out.2.2.2.2.2.2.1 (fun u hu => bcells_one u _ hu) (by unfold maxLen; omega) (by omega) (by simp) ?_; intro v1 w1 hown1 hg1)
      | (refine step_append_any _ (by rfl) _ _ _ (by rfl) w.heap.size 132 i0 (.agg #[.int .i64 0, .int .i64 0]) 2 16 Tryz.underlying50 HIF.out.1 HIF.out.2.1 HIF.out.2.2.1 HIF.out.2.2.2 rfl (by decide) v1 (0 + i) ([] ++ bcells (L.take i)) (by rfl) hown1 ⟨g, 0, none⟩ (L.length - (i + 1)) (c - (i + 1)) (bcells (L.drop (i + 1))) (by show Value.slice (if c = i + 1 then some (⟨g, 0, none⟩ : Addr) else some ⟨g, (i + 1) * 2, none⟩) (L.length - (i + 1)) (c - (i + 1)) = _; rw [if_pos HCE.out]) HE.out.2.2.2.1 (HE.out.2.2.2.2.2.2.2 _ (Below.grown HE.out.2.2.2.2.1 hg1 (by simp) (fun j hj => by cases hj; exact Nat.le_refl _))) (fun u hu => bcells_one u _ hu) (by unfold maxLen; omega) (by omega) (by have := hg1.size; simp at this ⊢; omega) ?_; intro v2 w2 hown2 hg2))
  have hX1 : Below w.heap.size w w1 := Below.grown HE.out.2.2.2.2.1 hg1 (by simp) (fun j hj => by cases hj; exact Nat.le_refl _)
  have hX2 : Below w.heap.size w w2 := Below.grown hX1 hg2 hX1.size (own_block hown1)
  have hsl : Hid (Slc w2 w.heap.size v2 (L.eraseIdx i)) := by
    refine slc_of ?_
    have e : L.eraseIdx i = L.take i ++ L.drop (i + 1) := List.eraseIdx_eq_take_drop_succ L i
    have e2 : (L.eraseIdx i).length = 0 + i + (L.length - (i + 1)) := by rw [e, List.length_append, HE.out.1, HE.out.2.1]; omega
    rw [e2, e, bcells_append]
    simpa using hown2
  clear hown1 hown2 hg1 hg2
  go_wp2_with fail
  go_ret
  exact ⟨_, rfl, hsl.out, hX2⟩

theorem cut_any (w : World) (L : List (Nat × Nat)) (b i : Nat) (v : Value) (hR : Slc w b v L) (hl : L.length ≤ 100000000) (hi : i < L.length) :
    Calls Tryz.prog 87 #[v, .int .i64 (i : Int)] w (CutPost L i w) := by
  obtain ⟨a, c, rfl, hr, h1, h2, _⟩ := hR
  obtain ⟨g, rfl⟩ : ∃ g, a = some ⟨g, 0, none⟩ := by
    rcases hr with h | ⟨g, rfl, _⟩
    · omega
    · exact ⟨g, rfl⟩
  by_cases hce : c = i + 1
  · exact cut_end w L b c i g hr hl hi h1 h2 hce
  · exact cut_at w L b c i g hr hl hi h1 h2 hce
end Go.Proofs.YtdmnemgooagehaaGreatDoor
