/- The document's rows of numbers: put. -/
import Derived.Test.YtdmnemgooagehaaGreatDoorK1
namespace Go.Proofs.YtdmnemgooagehaaGreatDoor
open Go.RowKit Go.Maps

theorem one_at_block {w : World} {cb : Nat} {u : Value} {t : TypeId} (h : w.heap[cb]? = some (.cells #[u] t)) : ∀ j x, [u][j]? = some x → w.cell? ((⟨cb, 0, none⟩ : Addr).add j) = some x := fun j x hj => by
  rw [addr_add, Nat.zero_add, cell_of_row _ _ _ _ _ _ h, ← hj]
  match j, hj with
  | 0, _ => rfl
set_option maxHeartbeats 4000000 in
set_option maxRecDepth 100000 in
theorem iput_some (w : World) (L : List Nat) (b c g x : Nat) (hR : w.ownsRow b 3 1 (.slice (some ⟨g, 0, none⟩) L.length c) L.length (nums L)) (hl : L.length ≤ 1000000) (hc : L.length ≤ c) (hcm : c ≤ 9223372036854775807) (_hx : x < 2147483648) :
    Calls Tryz.prog 83 #[.slice (some ⟨g, 0, none⟩) L.length c, .int .i64 (x : Int)] w (PutN L x w) := by
  obtain ⟨i0, hi0, hz0, hz1, hz2⟩ := info_parts Qu.info3
  have HIF := hid (And.intro hi0 (And.intro hz0 (And.intro hz1 hz2)))
  have HR := hid hR
  clear hR hi0 hz0 hz1 hz2
  go_enter Tryz.func83, Tryz.ntmps83
  go_wp2_with fail
  go_loop [5] (fun v => ∃ t : Nat, t ≤ L.length ∧ v = .int .i64 (t : Int) ∧ Hid (∀ j y : Nat, t ≤ j → L[j]? = some y → x < y)) (fun v => (intOf v).toNat)
  case atStart => exact ⟨L.length, Nat.le_refl _, rfl, fun j y hj hy => by have := (List.getElem?_eq_some_iff.1 hy).1; omega⟩
  case round =>
    obtain ⟨t, ht, rfl, hgt⟩ := hrel
    by_cases hgo : ∃ y, 0 < t ∧ L[t - 1]? = some y ∧ x < y
    · obtain ⟨y, h0, hy, hlt⟩ := hgo
      obtain ⟨t', rfl⟩ : ∃ t', t = t' + 1 := ⟨t - 1, by omega⟩
      rw [Nat.add_sub_cancel] at hy
      obtain ⟨g', eg, c0⟩ := Qu.row_at HR.out (nums_at hy)
      cases eg
      have hcmp : decide ((x : Int) < (y : Int)) = true := by rw [decide_eq_true]; omega
      have hcmp2 : decide (x < y) = true := by rw [decide_eq_true]; omega
      have h1 : ((t' + 1 : Nat) : Int) - 1 = (t' : Int) := by omega
      have h2 : (t' : Int) < (L.length : Int) := by omega
      have h3 : (0 : Int) < ((t' + 1 : Nat) : Int) := by omega
      have hd0 : decide ((0 : Int) < ((t' + 1 : Nat) : Int)) = true := decide_eq_true h3
      have HN : Hid (∀ j z : Nat, t' ≤ j → L[j]? = some z → x < z) := hid (fun j z hj hz => by
        by_cases e : j = t'
        · subst e
          rw [hy] at hz
          cases hz
          exact hlt
        · exact hgt.out j z (by omega) hz)
      clear hy hgt hlt
      go_wp2_with fail
      exact ⟨⟨t', by omega, by go_num, HN⟩, by simp [intOf]⟩
    · have hstop : Hid (StopN L x t) := by
        refine hid ⟨ht, hgt.out, ?_⟩
        by_cases h0 : t = 0
        · exact .inl h0
        · right
          obtain ⟨y, hy⟩ : ∃ y, L[t - 1]? = some y := ⟨_, List.getElem?_eq_getElem (by omega)⟩
          refine ⟨y, hy, ?_⟩
          apply Decidable.byContradiction
          intro h2
          exact hgo ⟨y, by omega, hy, by omega⟩
      have hguard : (t = 0) ∨ ∃ y t' : Nat, t = t' + 1 ∧ w.cell? ⟨g, t', none⟩ = some (.int .i64 (y : Int)) ∧ y ≤ x := by
        rcases hstop.out.2.2 with h0 | ⟨y, hy, hle⟩
        · exact .inl h0
        · by_cases h0 : t = 0
          · exact .inl h0
          · obtain ⟨t', rfl⟩ : ∃ t', t = t' + 1 := ⟨t - 1, by omega⟩
            rw [Nat.add_sub_cancel] at hy
            obtain ⟨g', eg, c0⟩ := Qu.row_at HR.out (nums_at hy)
            cases eg
            exact .inr ⟨y, t', rfl, c0, hle⟩
      clear hgo hgt
      rcases hguard with h0 | ⟨y, t', h0, c0, hle⟩
      · have hd0 : decide (0 < t) = false := by rw [decide_eq_false]; omega
        clear h0
        by_cases hce : c = t
        · have HCE := hid hce
          clear hce
          as_aux_lemma =>
            go_wp2_with fail
            have hsz : w.heap.size ≤ w.heap.size := Nat.le_refl _
            have hi2 : (0 : Int) ≤ (t : Int) := by omega
            have hi3 : (t : Int) ≤ (c : Int) := by omega
            have hi6 : (t : Int) ≤ (L.length : Int) := by omega
            have hi7 : (L.length : Int) ≤ (c : Int) := by omega
            have hW0 : Below w.heap.size w w.drew := (Below.refl _ w).drew
            have hB1 : Below w.heap.size w (w.drew.alloc (.cells #[] 3)) := hW0.alloc (Nat.le_refl _) _
            have hB2 : Below w.heap.size w ((w.drew.alloc (.cells #[] 3)).alloc (.cells #[.int .i64 (x : Int)] 3)) := hB1.alloc (by simp <;> omega) _
            have hB3 : Below w.heap.size w ((w.drew.alloc (.cells #[.int .i64 (x : Int)] 3)).alloc (.cells #[] 3)) := (hW0.alloc (Nat.le_refl _) _).alloc (by simp <;> omega) _
            have hO1 : (w.drew.alloc (.cells #[] 3)).ownsRow w.heap.size 3 1 (.slice (some ⟨w.heap.size, 0, none⟩) 0 0) 0 [] := World.ownsRow_lit w.drew #[] 0 (Nat.le_refl _) (by unfold maxLen; omega) rfl
            have hO3 : ((w.drew.alloc (.cells #[.int .i64 (x : Int)] 3)).alloc (.cells #[] 3)).ownsRow w.heap.size 3 1 (.slice (some ⟨w.heap.size + 1, 0, none⟩) 0 0) 0 [] := by
              have h := World.ownsRow_lit (base := w.heap.size) (e := 3) (size := 1) (w.drew.alloc (.cells #[.int .i64 (x : Int)] 3)) #[] 0 (by simp) (by unfold maxLen; omega) rfl
              simpa using h
            have hn1 : (nums (L.take t)).length = t * 1 := by rw [nums_len, List.length_take]; omega
            have hn3 : (nums (L.drop t)).length = (L.length - t) * 1 := by rw [nums_len, List.length_drop]; omega
            have hN1 : ∀ wx, Below w.heap.size w wx → ∀ j u, (nums (L.take t))[j]? = some u → wx.cell? ((⟨g, 0, none⟩ : Addr).add j) = some u := fun wx hx => news_head (World.ownsRow.bel HR.out hx (Nat.le_refl _)) t
            have hN3 : ∀ wx, Below w.heap.size w wx → ∀ j u, (nums (L.drop t))[j]? = some u → wx.cell? ((⟨g, 0, none⟩ : Addr).add j) = some u := fun wx hx => fun j u hj => by
              rw [List.drop_eq_nil_of_le (by have := HCE.out; omega)] at hj
              simp [nums] at hj
            have hC1 : ((w.drew.alloc (.cells #[] 3)).alloc (.cells #[.int .i64 (x : Int)] 3)).heap[w.heap.size + 1]? = some (.cells #[.int .i64 (x : Int)] 3) := by have := heap_alloc_new (w.drew.alloc (.cells #[] 3)) (.cells #[.int .i64 (x : Int)] 3); simpa using this
            have hC3 : ((w.drew.alloc (.cells #[.int .i64 (x : Int)] 3)).alloc (.cells #[] 3)).heap[w.heap.size]? = some (.cells #[.int .i64 (x : Int)] 3) := heap_alloc2_old w.drew _ _
            have HE := hid (And.intro hB1 (And.intro hB2 (And.intro hB3 (And.intro hO1 (And.intro (hO1.alloc (.cells #[.int .i64 (x : Int)] 3)) (And.intro hO3 (And.intro hC1 hC3)))))))
            have HN := hid (And.intro hn1 (And.intro hn3 (And.intro hN1 hN3)))
            clear hW0 hB1 hB2 hB3 hO1 hO3 hn1 hn3 hN1 hN3 hC1 hC3
            go_region_held3 (fun _ => True) (trivial)
              (first
                | (refine step_append_any _ (by rfl) _ _ _ (by rfl) w.heap.size 3 i0 (.int .i64 0) 1 8 Tryz.underlying34 HIF.out.1 HIF.out.2.1 HIF.out.2.2.1 HIF.out.2.2.2 rfl (by decide) (.slice (some ⟨w.heap.size, 0, none⟩) 0 0) 0 [] (by rfl) HE.out.2.2.2.1 ⟨g, 0, none⟩ t c (nums (L.take t)) (by rfl) HN.out.1 (HN.out.2.2.1 _ HE.out.1) (nums_one _) (by unfold maxLen; omega) (by omega) (by simp <;> omega) ?_; intro v1 w1 hown1 hg1
                   have hX1 : Below w.heap.size w w1 := Below.grown HE.out.1 hg1 (by simp <;> omega) (fun j hj => by cases hj; exact Nat.le_refl _))
                | (refine step_append_any _ (by rfl) _ _ _ (by rfl) w.heap.size 3 i0 (.int .i64 0) 1 8 Tryz.underlying34 HIF.out.1 HIF.out.2.1 HIF.out.2.2.1 HIF.out.2.2.2 rfl (by decide) (.slice (some ⟨w.heap.size, 0, none⟩) 0 0) 0 [] (by rfl) HE.out.2.2.2.2.1 ⟨g, 0, none⟩ t c (nums (L.take t)) (by rfl) HN.out.1 (HN.out.2.2.1 _ HE.out.2.1) (nums_one _) (by unfold maxLen; omega) (by omega) (by simp <;> omega) ?_; intro v1 w1 hown1 hg1
                   have hX1 : Below w.heap.size w w1 := Below.grown HE.out.2.1 hg1 (by simp <;> omega) (fun j hj => by cases hj; exact Nat.le_refl _)
                   have hcb : w1.heap[w.heap.size + 1]? = some (.cells #[.int .i64 (x : Int)] 3) := (hg1.block _ (by simp) (by simp [Value.ownBlock])).trans HE.out.2.2.2.2.2.2.1)
                | (refine step_append_any _ (by rfl) _ _ _ (by rfl) w.heap.size 3 i0 (.int .i64 0) 1 8 Tryz.underlying34 HIF.out.1 HIF.out.2.1 HIF.out.2.2.1 HIF.out.2.2.2 rfl (by decide) (.slice (some ⟨w.heap.size + 1, 0, none⟩) 0 0) 0 [] (by rfl) HE.out.2.2.2.2.2.1 ⟨g, 0, none⟩ t c (nums (L.take t)) (by rfl) HN.out.1 (HN.out.2.2.1 _ HE.out.2.2.1) (nums_one _) (by unfold maxLen; omega) (by omega) (by simp <;> omega) ?_; intro v1 w1 hown1 hg1
                   have hX1 : Below w.heap.size w w1 := Below.grown HE.out.2.2.1 hg1 (by simp <;> omega) (fun j hj => by cases hj; exact Nat.le_succ _)
                   have hcb : w1.heap[w.heap.size]? = some (.cells #[.int .i64 (x : Int)] 3) := (hg1.block _ (by simp; omega) (by simp [Value.ownBlock])).trans HE.out.2.2.2.2.2.2.2)
                | (refine step_append_any _ (by rfl) _ _ _ (by rfl) w.heap.size 3 i0 (.int .i64 0) 1 8 Tryz.underlying34 HIF.out.1 HIF.out.2.1 HIF.out.2.2.1 HIF.out.2.2.2 rfl (by decide) v1 (0 + t) ([] ++ nums (L.take t)) (by rfl) (hown1.alloc (.cells #[.int .i64 (x : Int)] 3)) ⟨w1.heap.size, 0, none⟩ 1 1 [.int .i64 (x : Int)] (by rfl) rfl (one_new _ _ _) (one_cell _) (by unfold maxLen; omega) (by omega) (by have := hX1.size; simp at this ⊢; omega) ?_; intro v2 w2 hown2 hg2
                   have hX2 : Below w.heap.size w w2 := Below.grown (hX1.alloc (by have := hX1.size; simpa using this) (.cells #[.int .i64 (x : Int)] 3)) hg2 (by have := hX1.size; simp at this ⊢; omega) (fun k e => (Qu.own_block hown1 k e).1))
                | (refine step_append_any _ (by rfl) _ _ _ (by rfl) w.heap.size 3 i0 (.int .i64 0) 1 8 Tryz.underlying34 HIF.out.1 HIF.out.2.1 HIF.out.2.2.1 HIF.out.2.2.2 rfl (by decide) v1 (0 + t) ([] ++ nums (L.take t)) (by rfl) hown1 ⟨_, 0, none⟩ 1 1 [.int .i64 (x : Int)] (by rfl) rfl (one_at_block hcb) (one_cell _) (by unfold maxLen; omega) (by omega) (by have := hX1.size; simpa using this) ?_; intro v2 w2 hown2 hg2
                   have hX2 : Below w.heap.size w w2 := Below.grown hX1 hg2 (by have := hX1.size; simpa using this) (fun k e => (Qu.own_block hown1 k e).1))
                | (refine step_append_any _ (by rfl) _ _ _ (by rfl) w.heap.size 3 i0 (.int .i64 0) 1 8 Tryz.underlying34 HIF.out.1 HIF.out.2.1 HIF.out.2.2.1 HIF.out.2.2.2 rfl (by decide) v2 (0 + t + 1) (([] ++ nums (L.take t)) ++ [.int .i64 (x : Int)]) (by rfl) hown2 ⟨g, 0, none⟩ (L.length - t) (c - t) (nums (L.drop t)) (by show Value.slice (if c = t then some (⟨g, 0, none⟩ : Addr) else some ⟨g, t, none⟩) (L.length - t) (c - t) = _; rw [if_pos HCE.out]) HN.out.2.1 (HN.out.2.2.2 _ hX2) (nums_one _) (by unfold maxLen; omega) (by omega) (by have := hX2.size; simpa using this) ?_; intro v3 w3 hown3 hg3
                   have hX3 : Below w.heap.size w w3 := Below.grown hX2 hg3 (by have := hX2.size; simpa using this) (fun k e => (Qu.own_block hown2 k e).1)))
            all_goals
              obtain ⟨a3, cap3, rfl, hI3⟩ := put_row hstop.out.1 hown3
              have HI3 := hid hI3
              have HX3 := hid hX3
              clear hown1 hown2 hown3 hg1 hg2 hg3 hI3 hX1 hX2 hX3
              go_wp2_with fail
              go_ret
              exact ⟨a3, cap3, t, rfl, hstop, HI3, HX3.out⟩
        · have HCE := hid hce
          clear hce
          as_aux_lemma =>
            go_wp2_with fail
            have hsz : w.heap.size ≤ w.heap.size := Nat.le_refl _
            have hi2 : (0 : Int) ≤ (t : Int) := by omega
            have hi3 : (t : Int) ≤ (c : Int) := by omega
            have hi6 : (t : Int) ≤ (L.length : Int) := by omega
            have hi7 : (L.length : Int) ≤ (c : Int) := by omega
            have hW0 : Below w.heap.size w w.drew := (Below.refl _ w).drew
            have hB1 : Below w.heap.size w (w.drew.alloc (.cells #[] 3)) := hW0.alloc (Nat.le_refl _) _
            have hB2 : Below w.heap.size w ((w.drew.alloc (.cells #[] 3)).alloc (.cells #[.int .i64 (x : Int)] 3)) := hB1.alloc (by simp <;> omega) _
            have hB3 : Below w.heap.size w ((w.drew.alloc (.cells #[.int .i64 (x : Int)] 3)).alloc (.cells #[] 3)) := (hW0.alloc (Nat.le_refl _) _).alloc (by simp <;> omega) _
            have hO1 : (w.drew.alloc (.cells #[] 3)).ownsRow w.heap.size 3 1 (.slice (some ⟨w.heap.size, 0, none⟩) 0 0) 0 [] := World.ownsRow_lit w.drew #[] 0 (Nat.le_refl _) (by unfold maxLen; omega) rfl
            have hO3 : ((w.drew.alloc (.cells #[.int .i64 (x : Int)] 3)).alloc (.cells #[] 3)).ownsRow w.heap.size 3 1 (.slice (some ⟨w.heap.size + 1, 0, none⟩) 0 0) 0 [] := by
              have h := World.ownsRow_lit (base := w.heap.size) (e := 3) (size := 1) (w.drew.alloc (.cells #[.int .i64 (x : Int)] 3)) #[] 0 (by simp) (by unfold maxLen; omega) rfl
              simpa using h
            have hn1 : (nums (L.take t)).length = t * 1 := by rw [nums_len, List.length_take]; omega
            have hn3 : (nums (L.drop t)).length = (L.length - t) * 1 := by rw [nums_len, List.length_drop]; omega
            have hN1 : ∀ wx, Below w.heap.size w wx → ∀ j u, (nums (L.take t))[j]? = some u → wx.cell? ((⟨g, 0, none⟩ : Addr).add j) = some u := fun wx hx => news_head (World.ownsRow.bel HR.out hx (Nat.le_refl _)) t
            have hN3 : ∀ wx, Below w.heap.size w wx → ∀ j u, (nums (L.drop t))[j]? = some u → wx.cell? ((⟨g, t, none⟩ : Addr).add j) = some u := fun wx hx => news_tail (World.ownsRow.bel HR.out hx (Nat.le_refl _)) t
            have hC1 : ((w.drew.alloc (.cells #[] 3)).alloc (.cells #[.int .i64 (x : Int)] 3)).heap[w.heap.size + 1]? = some (.cells #[.int .i64 (x : Int)] 3) := by have := heap_alloc_new (w.drew.alloc (.cells #[] 3)) (.cells #[.int .i64 (x : Int)] 3); simpa using this
            have hC3 : ((w.drew.alloc (.cells #[.int .i64 (x : Int)] 3)).alloc (.cells #[] 3)).heap[w.heap.size]? = some (.cells #[.int .i64 (x : Int)] 3) := heap_alloc2_old w.drew _ _
            have HE := hid (And.intro hB1 (And.intro hB2 (And.intro hB3 (And.intro hO1 (And.intro (hO1.alloc (.cells #[.int .i64 (x : Int)] 3)) (And.intro hO3 (And.intro hC1 hC3)))))))
            have HN := hid (And.intro hn1 (And.intro hn3 (And.intro hN1 hN3)))
            clear hW0 hB1 hB2 hB3 hO1 hO3 hn1 hn3 hN1 hN3 hC1 hC3
            go_region_held3 (fun _ => True) (trivial)
              (first
                | (refine step_append_any _ (by rfl) _ _ _ (by rfl) w.heap.size 3 i0 (.int .i64 0) 1 8 Tryz.underlying34 HIF.out.1 HIF.out.2.1 HIF.out.2.2.1 HIF.out.2.2.2 rfl (by decide) (.slice (some ⟨w.heap.size, 0, none⟩) 0 0) 0 [] (by rfl) HE.out.2.2.2.1 ⟨g, 0, none⟩ t c (nums (L.take t)) (by rfl) HN.out.1 (HN.out.2.2.1 _ HE.out.1) (nums_one _) (by unfold maxLen; omega) (by omega) (by simp <;> omega) ?_; intro v1 w1 hown1 hg1
                   have hX1 : Below w.heap.size w w1 := Below.grown HE.out.1 hg1 (by simp <;> omega) (fun j hj => by cases hj; exact Nat.le_refl _))
                | (refine step_append_any _ (by rfl) _ _ _ (by rfl) w.heap.size 3 i0 (.int .i64 0) 1 8 Tryz.underlying34 HIF.out.1 HIF.out.2.1 HIF.out.2.2.1 HIF.out.2.2.2 rfl (by decide) (.slice (some ⟨w.heap.size, 0, none⟩) 0 0) 0 [] (by rfl) HE.out.2.2.2.2.1 ⟨g, 0, none⟩ t c (nums (L.take t)) (by rfl) HN.out.1 (HN.out.2.2.1 _ HE.out.2.1) (nums_one _) (by unfold maxLen; omega) (by omega) (by simp <;> omega) ?_; intro v1 w1 hown1 hg1
                   have hX1 : Below w.heap.size w w1 := Below.grown HE.out.2.1 hg1 (by simp <;> omega) (fun j hj => by cases hj; exact Nat.le_refl _)
                   have hcb : w1.heap[w.heap.size + 1]? = some (.cells #[.int .i64 (x : Int)] 3) := (hg1.block _ (by simp) (by simp [Value.ownBlock])).trans HE.out.2.2.2.2.2.2.1)
                | (refine step_append_any _ (by rfl) _ _ _ (by rfl) w.heap.size 3 i0 (.int .i64 0) 1 8 Tryz.underlying34 HIF.out.1 HIF.out.2.1 HIF.out.2.2.1 HIF.out.2.2.2 rfl (by decide) (.slice (some ⟨w.heap.size + 1, 0, none⟩) 0 0) 0 [] (by rfl) HE.out.2.2.2.2.2.1 ⟨g, 0, none⟩ t c (nums (L.take t)) (by rfl) HN.out.1 (HN.out.2.2.1 _ HE.out.2.2.1) (nums_one _) (by unfold maxLen; omega) (by omega) (by simp <;> omega) ?_; intro v1 w1 hown1 hg1
                   have hX1 : Below w.heap.size w w1 := Below.grown HE.out.2.2.1 hg1 (by simp <;> omega) (fun j hj => by cases hj; exact Nat.le_succ _)
                   have hcb : w1.heap[w.heap.size]? = some (.cells #[.int .i64 (x : Int)] 3) := (hg1.block _ (by simp; omega) (by simp [Value.ownBlock])).trans HE.out.2.2.2.2.2.2.2)
                | (refine step_append_any _ (by rfl) _ _ _ (by rfl) w.heap.size 3 i0 (.int .i64 0) 1 8 Tryz.underlying34 HIF.out.1 HIF.out.2.1 HIF.out.2.2.1 HIF.out.2.2.2 rfl (by decide) v1 (0 + t) ([] ++ nums (L.take t)) (by rfl) (hown1.alloc (.cells #[.int .i64 (x : Int)] 3)) ⟨w1.heap.size, 0, none⟩ 1 1 [.int .i64 (x : Int)] (by rfl) rfl (one_new _ _ _) (one_cell _) (by unfold maxLen; omega) (by omega) (by have := hX1.size; simp at this ⊢; omega) ?_; intro v2 w2 hown2 hg2
                   have hX2 : Below w.heap.size w w2 := Below.grown (hX1.alloc (by have := hX1.size; simpa using this) (.cells #[.int .i64 (x : Int)] 3)) hg2 (by have := hX1.size; simp at this ⊢; omega) (fun k e => (Qu.own_block hown1 k e).1))
                | (refine step_append_any _ (by rfl) _ _ _ (by rfl) w.heap.size 3 i0 (.int .i64 0) 1 8 Tryz.underlying34 HIF.out.1 HIF.out.2.1 HIF.out.2.2.1 HIF.out.2.2.2 rfl (by decide) v1 (0 + t) ([] ++ nums (L.take t)) (by rfl) hown1 ⟨_, 0, none⟩ 1 1 [.int .i64 (x : Int)] (by rfl) rfl (one_at_block hcb) (one_cell _) (by unfold maxLen; omega) (by omega) (by have := hX1.size; simpa using this) ?_; intro v2 w2 hown2 hg2
                   have hX2 : Below w.heap.size w w2 := Below.grown hX1 hg2 (by have := hX1.size; simpa using this) (fun k e => (Qu.own_block hown1 k e).1))
                | (refine step_append_any _ (by rfl) _ _ _ (by rfl) w.heap.size 3 i0 (.int .i64 0) 1 8 Tryz.underlying34 HIF.out.1 HIF.out.2.1 HIF.out.2.2.1 HIF.out.2.2.2 rfl (by decide) v2 (0 + t + 1) (([] ++ nums (L.take t)) ++ [.int .i64 (x : Int)]) (by rfl) hown2 ⟨g, t, none⟩ (L.length - t) (c - t) (nums (L.drop t)) (by show Value.slice (if c = t then some (⟨g, 0, none⟩ : Addr) else some ⟨g, t, none⟩) (L.length - t) (c - t) = _; rw [if_neg HCE.out]) HN.out.2.1 (HN.out.2.2.2 _ hX2) (nums_one _) (by unfold maxLen; omega) (by omega) (by have := hX2.size; simpa using this) ?_; intro v3 w3 hown3 hg3
                   have hX3 : Below w.heap.size w w3 := Below.grown hX2 hg3 (by have := hX2.size; simpa using this) (fun k e => (Qu.own_block hown2 k e).1)))
            all_goals
              obtain ⟨a3, cap3, rfl, hI3⟩ := put_row hstop.out.1 hown3
              have HI3 := hid hI3
              have HX3 := hid hX3
              clear hown1 hown2 hown3 hg1 hg2 hg3 hI3 hX1 hX2 hX3
              go_wp2_with fail
              go_ret
              exact ⟨a3, cap3, t, rfl, hstop, HI3, HX3.out⟩
      · have hd0 : decide (0 < t) = true := by rw [decide_eq_true]; omega
        have hcmp : decide ((x : Int) < (y : Int)) = false := by rw [decide_eq_false]; omega
        have hcmp2 : decide (x < y) = false := by rw [decide_eq_false]; omega
        have h1 : (t : Int) - 1 = (t' : Int) := by omega
        have h2 : (t' : Int) < (L.length : Int) := by omega
        clear h0
        by_cases hce : c = t
        · have HCE := hid hce
          clear hce
          as_aux_lemma =>
            go_wp2_with fail
            clear hd0 hcmp hcmp2 h1 h2 c0 hle
            have hsz : w.heap.size ≤ w.heap.size := Nat.le_refl _
            have hi2 : (0 : Int) ≤ (t : Int) := by omega
            have hi3 : (t : Int) ≤ (c : Int) := by omega
            have hi6 : (t : Int) ≤ (L.length : Int) := by omega
            have hi7 : (L.length : Int) ≤ (c : Int) := by omega
            have hW0 : Below w.heap.size w w.drew := (Below.refl _ w).drew
            have hB1 : Below w.heap.size w (w.drew.alloc (.cells #[] 3)) := hW0.alloc (Nat.le_refl _) _
            have hB2 : Below w.heap.size w ((w.drew.alloc (.cells #[] 3)).alloc (.cells #[.int .i64 (x : Int)] 3)) := hB1.alloc (by simp <;> omega) _
            have hB3 : Below w.heap.size w ((w.drew.alloc (.cells #[.int .i64 (x : Int)] 3)).alloc (.cells #[] 3)) := (hW0.alloc (Nat.le_refl _) _).alloc (by simp <;> omega) _
            have hO1 : (w.drew.alloc (.cells #[] 3)).ownsRow w.heap.size 3 1 (.slice (some ⟨w.heap.size, 0, none⟩) 0 0) 0 [] := World.ownsRow_lit w.drew #[] 0 (Nat.le_refl _) (by unfold maxLen; omega) rfl
            have hO3 : ((w.drew.alloc (.cells #[.int .i64 (x : Int)] 3)).alloc (.cells #[] 3)).ownsRow w.heap.size 3 1 (.slice (some ⟨w.heap.size + 1, 0, none⟩) 0 0) 0 [] := by
              have h := World.ownsRow_lit (base := w.heap.size) (e := 3) (size := 1) (w.drew.alloc (.cells #[.int .i64 (x : Int)] 3)) #[] 0 (by simp) (by unfold maxLen; omega) rfl
              simpa using h
            have hn1 : (nums (L.take t)).length = t * 1 := by rw [nums_len, List.length_take]; omega
            have hn3 : (nums (L.drop t)).length = (L.length - t) * 1 := by rw [nums_len, List.length_drop]; omega
            have hN1 : ∀ wx, Below w.heap.size w wx → ∀ j u, (nums (L.take t))[j]? = some u → wx.cell? ((⟨g, 0, none⟩ : Addr).add j) = some u := fun wx hx => news_head (World.ownsRow.bel HR.out hx (Nat.le_refl _)) t
            have hN3 : ∀ wx, Below w.heap.size w wx → ∀ j u, (nums (L.drop t))[j]? = some u → wx.cell? ((⟨g, 0, none⟩ : Addr).add j) = some u := fun wx hx => fun j u hj => by
              rw [List.drop_eq_nil_of_le (by have := HCE.out; omega)] at hj
              simp [nums] at hj
            have hC1 : ((w.drew.alloc (.cells #[] 3)).alloc (.cells #[.int .i64 (x : Int)] 3)).heap[w.heap.size + 1]? = some (.cells #[.int .i64 (x : Int)] 3) := by have := heap_alloc_new (w.drew.alloc (.cells #[] 3)) (.cells #[.int .i64 (x : Int)] 3); simpa using this
            have hC3 : ((w.drew.alloc (.cells #[.int .i64 (x : Int)] 3)).alloc (.cells #[] 3)).heap[w.heap.size]? = some (.cells #[.int .i64 (x : Int)] 3) := heap_alloc2_old w.drew _ _
            have HE := hid (And.intro hB1 (And.intro hB2 (And.intro hB3 (And.intro hO1 (And.intro (hO1.alloc (.cells #[.int .i64 (x : Int)] 3)) (And.intro hO3 (And.intro hC1 hC3)))))))
            have HN := hid (And.intro hn1 (And.intro hn3 (And.intro hN1 hN3)))
            clear hW0 hB1 hB2 hB3 hO1 hO3 hn1 hn3 hN1 hN3 hC1 hC3
            go_region_held3 (fun _ => True) (trivial)
              (first
                | (refine step_append_any _ (by rfl) _ _ _ (by rfl) w.heap.size 3 i0 (.int .i64 0) 1 8 Tryz.underlying34 HIF.out.1 HIF.out.2.1 HIF.out.2.2.1 HIF.out.2.2.2 rfl (by decide) (.slice (some ⟨w.heap.size, 0, none⟩) 0 0) 0 [] (by rfl) HE.out.2.2.2.1 ⟨g, 0, none⟩ t c (nums (L.take t)) (by rfl) HN.out.1 (HN.out.2.2.1 _ HE.out.1) (nums_one _) (by unfold maxLen; omega) (by omega) (by simp <;> omega) ?_; intro v1 w1 hown1 hg1
                   have hX1 : Below w.heap.size w w1 := Below.grown HE.out.1 hg1 (by simp <;> omega) (fun j hj => by cases hj; exact Nat.le_refl _))
                | (refine step_append_any _ (by rfl) _ _ _ (by rfl) w.heap.size 3 i0 (.int .i64 0) 1 8 Tryz.underlying34 HIF.out.1 HIF.out.2.1 HIF.out.2.2.1 HIF.out.2.2.2 rfl (by decide) (.slice (some ⟨w.heap.size, 0, none⟩) 0 0) 0 [] (by rfl) HE.out.2.2.2.2.1 ⟨g, 0, none⟩ t c (nums (L.take t)) (by rfl) HN.out.1 (HN.out.2.2.1 _ HE.out.2.1) (nums_one _) (by unfold maxLen; omega) (by omega) (by simp <;> omega) ?_; intro v1 w1 hown1 hg1
                   have hX1 : Below w.heap.size w w1 := Below.grown HE.out.2.1 hg1 (by simp <;> omega) (fun j hj => by cases hj; exact Nat.le_refl _)
                   have hcb : w1.heap[w.heap.size + 1]? = some (.cells #[.int .i64 (x : Int)] 3) := (hg1.block _ (by simp) (by simp [Value.ownBlock])).trans HE.out.2.2.2.2.2.2.1)
                | (refine step_append_any _ (by rfl) _ _ _ (by rfl) w.heap.size 3 i0 (.int .i64 0) 1 8 Tryz.underlying34 HIF.out.1 HIF.out.2.1 HIF.out.2.2.1 HIF.out.2.2.2 rfl (by decide) (.slice (some ⟨w.heap.size + 1, 0, none⟩) 0 0) 0 [] (by rfl) HE.out.2.2.2.2.2.1 ⟨g, 0, none⟩ t c (nums (L.take t)) (by rfl) HN.out.1 (HN.out.2.2.1 _ HE.out.2.2.1) (nums_one _) (by unfold maxLen; omega) (by omega) (by simp <;> omega) ?_; intro v1 w1 hown1 hg1
                   have hX1 : Below w.heap.size w w1 := Below.grown HE.out.2.2.1 hg1 (by simp <;> omega) (fun j hj => by cases hj; exact Nat.le_succ _)
                   have hcb : w1.heap[w.heap.size]? = some (.cells #[.int .i64 (x : Int)] 3) := (hg1.block _ (by simp; omega) (by simp [Value.ownBlock])).trans HE.out.2.2.2.2.2.2.2)
                | (refine step_append_any _ (by rfl) _ _ _ (by rfl) w.heap.size 3 i0 (.int .i64 0) 1 8 Tryz.underlying34 HIF.out.1 HIF.out.2.1 HIF.out.2.2.1 HIF.out.2.2.2 rfl (by decide) v1 (0 + t) ([] ++ nums (L.take t)) (by rfl) (hown1.alloc (.cells #[.int .i64 (x : Int)] 3)) ⟨w1.heap.size, 0, none⟩ 1 1 [.int .i64 (x : Int)] (by rfl) rfl (one_new _ _ _) (one_cell _) (by unfold maxLen; omega) (by omega) (by have := hX1.size; simp at this ⊢; omega) ?_; intro v2 w2 hown2 hg2
                   have hX2 : Below w.heap.size w w2 := Below.grown (hX1.alloc (by have := hX1.size; simpa using this) (.cells #[.int .i64 (x : Int)] 3)) hg2 (by have := hX1.size; simp at this ⊢; omega) (fun k e => (Qu.own_block hown1 k e).1))
                | (refine step_append_any _ (by rfl) _ _ _ (by rfl) w.heap.size 3 i0 (.int .i64 0) 1 8 Tryz.underlying34 HIF.out.1 HIF.out.2.1 HIF.out.2.2.1 HIF.out.2.2.2 rfl (by decide) v1 (0 + t) ([] ++ nums (L.take t)) (by rfl) hown1 ⟨_, 0, none⟩ 1 1 [.int .i64 (x : Int)] (by rfl) rfl (one_at_block hcb) (one_cell _) (by unfold maxLen; omega) (by omega) (by have := hX1.size; simpa using this) ?_; intro v2 w2 hown2 hg2
                   have hX2 : Below w.heap.size w w2 := Below.grown hX1 hg2 (by have := hX1.size; simpa using this) (fun k e => (Qu.own_block hown1 k e).1))
                | (refine step_append_any _ (by rfl) _ _ _ (by rfl) w.heap.size 3 i0 (.int .i64 0) 1 8 Tryz.underlying34 HIF.out.1 HIF.out.2.1 HIF.out.2.2.1 HIF.out.2.2.2 rfl (by decide) v2 (0 + t + 1) (([] ++ nums (L.take t)) ++ [.int .i64 (x : Int)]) (by rfl) hown2 ⟨g, 0, none⟩ (L.length - t) (c - t) (nums (L.drop t)) (by show Value.slice (if c = t then some (⟨g, 0, none⟩ : Addr) else some ⟨g, t, none⟩) (L.length - t) (c - t) = _; rw [if_pos HCE.out]) HN.out.2.1 (HN.out.2.2.2 _ hX2) (nums_one _) (by unfold maxLen; omega) (by omega) (by have := hX2.size; simpa using this) ?_; intro v3 w3 hown3 hg3
                   have hX3 : Below w.heap.size w w3 := Below.grown hX2 hg3 (by have := hX2.size; simpa using this) (fun k e => (Qu.own_block hown2 k e).1)))
            all_goals
              obtain ⟨a3, cap3, rfl, hI3⟩ := put_row hstop.out.1 hown3
              have HI3 := hid hI3
              have HX3 := hid hX3
              clear hown1 hown2 hown3 hg1 hg2 hg3 hI3 hX1 hX2 hX3
              go_wp2_with fail
              go_ret
              exact ⟨a3, cap3, t, rfl, hstop, HI3, HX3.out⟩
        · have HCE := hid hce
          clear hce
          as_aux_lemma =>
            go_wp2_with fail
            clear hd0 hcmp hcmp2 h1 h2 c0 hle
            have hsz : w.heap.size ≤ w.heap.size := Nat.le_refl _
            have hi2 : (0 : Int) ≤ (t : Int) := by omega
            have hi3 : (t : Int) ≤ (c : Int) := by omega
            have hi6 : (t : Int) ≤ (L.length : Int) := by omega
            have hi7 : (L.length : Int) ≤ (c : Int) := by omega
            have hW0 : Below w.heap.size w w.drew := (Below.refl _ w).drew
            have hB1 : Below w.heap.size w (w.drew.alloc (.cells #[] 3)) := hW0.alloc (Nat.le_refl _) _
            have hB2 : Below w.heap.size w ((w.drew.alloc (.cells #[] 3)).alloc (.cells #[.int .i64 (x : Int)] 3)) := hB1.alloc (by simp <;> omega) _
            have hB3 : Below w.heap.size w ((w.drew.alloc (.cells #[.int .i64 (x : Int)] 3)).alloc (.cells #[] 3)) := (hW0.alloc (Nat.le_refl _) _).alloc (by simp <;> omega) _
            have hO1 : (w.drew.alloc (.cells #[] 3)).ownsRow w.heap.size 3 1 (.slice (some ⟨w.heap.size, 0, none⟩) 0 0) 0 [] := World.ownsRow_lit w.drew #[] 0 (Nat.le_refl _) (by unfold maxLen; omega) rfl
            have hO3 : ((w.drew.alloc (.cells #[.int .i64 (x : Int)] 3)).alloc (.cells #[] 3)).ownsRow w.heap.size 3 1 (.slice (some ⟨w.heap.size + 1, 0, none⟩) 0 0) 0 [] := by
              have h := World.ownsRow_lit (base := w.heap.size) (e := 3) (size := 1) (w.drew.alloc (.cells #[.int .i64 (x : Int)] 3)) #[] 0 (by simp) (by unfold maxLen; omega) rfl
              simpa using h
            have hn1 : (nums (L.take t)).length = t * 1 := by rw [nums_len, List.length_take]; omega
            have hn3 : (nums (L.drop t)).length = (L.length - t) * 1 := by rw [nums_len, List.length_drop]; omega
            have hN1 : ∀ wx, Below w.heap.size w wx → ∀ j u, (nums (L.take t))[j]? = some u → wx.cell? ((⟨g, 0, none⟩ : Addr).add j) = some u := fun wx hx => news_head (World.ownsRow.bel HR.out hx (Nat.le_refl _)) t
            have hN3 : ∀ wx, Below w.heap.size w wx → ∀ j u, (nums (L.drop t))[j]? = some u → wx.cell? ((⟨g, t, none⟩ : Addr).add j) = some u := fun wx hx => news_tail (World.ownsRow.bel HR.out hx (Nat.le_refl _)) t
            have hC1 : ((w.drew.alloc (.cells #[] 3)).alloc (.cells #[.int .i64 (x : Int)] 3)).heap[w.heap.size + 1]? = some (.cells #[.int .i64 (x : Int)] 3) := by have := heap_alloc_new (w.drew.alloc (.cells #[] 3)) (.cells #[.int .i64 (x : Int)] 3); simpa using this
            have hC3 : ((w.drew.alloc (.cells #[.int .i64 (x : Int)] 3)).alloc (.cells #[] 3)).heap[w.heap.size]? = some (.cells #[.int .i64 (x : Int)] 3) := heap_alloc2_old w.drew _ _
            have HE := hid (And.intro hB1 (And.intro hB2 (And.intro hB3 (And.intro hO1 (And.intro (hO1.alloc (.cells #[.int .i64 (x : Int)] 3)) (And.intro hO3 (And.intro hC1 hC3)))))))
            have HN := hid (And.intro hn1 (And.intro hn3 (And.intro hN1 hN3)))
            clear hW0 hB1 hB2 hB3 hO1 hO3 hn1 hn3 hN1 hN3 hC1 hC3
            go_region_held3 (fun _ => True) (trivial)
              (first
                | (refine step_append_any _ (by rfl) _ _ _ (by rfl) w.heap.size 3 i0 (.int .i64 0) 1 8 Tryz.underlying34 HIF.out.1 HIF.out.2.1 HIF.out.2.2.1 HIF.out.2.2.2 rfl (by decide) (.slice (some ⟨w.heap.size, 0, none⟩) 0 0) 0 [] (by rfl) HE.out.2.2.2.1 ⟨g, 0, none⟩ t c (nums (L.take t)) (by rfl) HN.out.1 (HN.out.2.2.1 _ HE.out.1) (nums_one _) (by unfold maxLen; omega) (by omega) (by simp <;> omega) ?_; intro v1 w1 hown1 hg1
                   have hX1 : Below w.heap.size w w1 := Below.grown HE.out.1 hg1 (by simp <;> omega) (fun j hj => by cases hj; exact Nat.le_refl _))
                | (refine step_append_any _ (by rfl) _ _ _ (by rfl) w.heap.size 3 i0 (.int .i64 0) 1 8 Tryz.underlying34 HIF.out.1 HIF.out.2.1 HIF.out.2.2.1 HIF.out.2.2.2 rfl (by decide) (.slice (some ⟨w.heap.size, 0, none⟩) 0 0) 0 [] (by rfl) HE.out.2.2.2.2.1 ⟨g, 0, none⟩ t c (nums (L.take t)) (by rfl) HN.out.1 (HN.out.2.2.1 _ HE.out.2.1) (nums_one _) (by unfold maxLen; omega) (by omega) (by simp <;> omega) ?_; intro v1 w1 hown1 hg1
                   have hX1 : Below w.heap.size w w1 := Below.grown HE.out.2.1 hg1 (by simp <;> omega) (fun j hj => by cases hj; exact Nat.le_refl _)
                   have hcb : w1.heap[w.heap.size + 1]? = some (.cells #[.int .i64 (x : Int)] 3) := (hg1.block _ (by simp) (by simp [Value.ownBlock])).trans HE.out.2.2.2.2.2.2.1)
                | (refine step_append_any _ (by rfl) _ _ _ (by rfl) w.heap.size 3 i0 (.int .i64 0) 1 8 Tryz.underlying34 HIF.out.1 HIF.out.2.1 HIF.out.2.2.1 HIF.out.2.2.2 rfl (by decide) (.slice (some ⟨w.heap.size + 1, 0, none⟩) 0 0) 0 [] (by rfl) HE.out.2.2.2.2.2.1 ⟨g, 0, none⟩ t c (nums (L.take t)) (by rfl) HN.out.1 (HN.out.2.2.1 _ HE.out.2.2.1) (nums_one _) (by unfold maxLen; omega) (by omega) (by simp <;> omega) ?_; intro v1 w1 hown1 hg1
                   have hX1 : Below w.heap.size w w1 := Below.grown HE.out.2.2.1 hg1 (by simp <;> omega) (fun j hj => by cases hj; exact Nat.le_succ _)
                   have hcb : w1.heap[w.heap.size]? = some (.cells #[.int .i64 (x : Int)] 3) := (hg1.block _ (by simp; omega) (by simp [Value.ownBlock])).trans HE.out.2.2.2.2.2.2.2)
                | (refine step_append_any _ (by rfl) _ _ _ (by rfl) w.heap.size 3 i0 (.int .i64 0) 1 8 Tryz.underlying34 HIF.out.1 HIF.out.2.1 HIF.out.2.2.1 HIF.out.2.2.2 rfl (by decide) v1 (0 + t) ([] ++ nums (L.take t)) (by rfl) (hown1.alloc (.cells #[.int .i64 (x : Int)] 3)) ⟨w1.heap.size, 0, none⟩ 1 1 [.int .i64 (x : Int)] (by rfl) rfl (one_new _ _ _) (one_cell _) (by unfold maxLen; omega) (by omega) (by have := hX1.size; simp at this ⊢; omega) ?_; intro v2 w2 hown2 hg2
                   have hX2 : Below w.heap.size w w2 := Below.grown (hX1.alloc (by have := hX1.size; simpa using this) (.cells #[.int .i64 (x : Int)] 3)) hg2 (by have := hX1.size; simp at this ⊢; omega) (fun k e => (Qu.own_block hown1 k e).1))
                | (refine step_append_any _ (by rfl) _ _ _ (by rfl) w.heap.size 3 i0 (.int .i64 0) 1 8 Tryz.underlying34 HIF.out.1 HIF.out.2.1 HIF.out.2.2.1 HIF.out.2.2.2 rfl (by decide) v1 (0 + t) ([] ++ nums (L.take t)) (by rfl) hown1 ⟨_, 0, none⟩ 1 1 [.int .i64 (x : Int)] (by rfl) rfl (one_at_block hcb) (one_cell _) (by unfold maxLen; omega) (by omega) (by have := hX1.size; simpa using this) ?_; intro v2 w2 hown2 hg2
                   have hX2 : Below w.heap.size w w2 := Below.grown hX1 hg2 (by have := hX1.size; simpa using this) (fun k e => (Qu.own_block hown1 k e).1))
                | (refine step_append_any _ (by rfl) _ _ _ (by rfl) w.heap.size 3 i0 (.int .i64 0) 1 8 Tryz.underlying34 HIF.out.1 HIF.out.2.1 HIF.out.2.2.1 HIF.out.2.2.2 rfl (by decide) v2 (0 + t + 1) (([] ++ nums (L.take t)) ++ [.int .i64 (x : Int)]) (by rfl) hown2 ⟨g, t, none⟩ (L.length - t) (c - t) (nums (L.drop t)) (by show Value.slice (if c = t then some (⟨g, 0, none⟩ : Addr) else some ⟨g, t, none⟩) (L.length - t) (c - t) = _; rw [if_neg HCE.out]) HN.out.2.1 (HN.out.2.2.2 _ hX2) (nums_one _) (by unfold maxLen; omega) (by omega) (by have := hX2.size; simpa using this) ?_; intro v3 w3 hown3 hg3
                   have hX3 : Below w.heap.size w w3 := Below.grown hX2 hg3 (by have := hX2.size; simpa using this) (fun k e => (Qu.own_block hown2 k e).1)))
            all_goals
              obtain ⟨a3, cap3, rfl, hI3⟩ := put_row hstop.out.1 hown3
              have HI3 := hid hI3
              have HX3 := hid hX3
              clear hown1 hown2 hown3 hg1 hg2 hg3 hI3 hX1 hX2 hX3
              go_wp2_with fail
              go_ret
              exact ⟨a3, cap3, t, rfl, hstop, HI3, HX3.out⟩
end Go.Proofs.YtdmnemgooagehaaGreatDoor
