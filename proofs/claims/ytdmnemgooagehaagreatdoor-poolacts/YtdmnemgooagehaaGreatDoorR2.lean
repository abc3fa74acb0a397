/- The document's allocator by lists: the contract of put. -/
import Derived.Test.YtdmnemgooagehaaGreatDoorR1
namespace Go.Proofs.YtdmnemgooagehaaGreatDoor
open Go.RowKit Go.Maps

/-- Where put stops. -/
def Stops (L : List (Nat × Nat)) (p t : Nat) : Prop := t ≤ L.length ∧ (∀ j q k : Nat, t ≤ j → L[j]? = some (q, k) → p < q) ∧ (t = 0 ∨ ∃ q k, L[t - 1]? = some (q, k) ∧ q ≤ p)
def PutPost (L : List (Nat × Nat)) (p k : Nat) (w : World) (e : Ending) (w' : World) : Prop := ∃ v t, e = .returned v ∧ Stops L p t ∧ Slc w' w.heap.size v (L.take t ++ (p, k) :: L.drop t) ∧ Below w.heap.size w w'


theorem pair_news {w : World} {cb : Nat} {x y : Value} (h : w.heap[cb]? = some (.cells #[x, y] 132)) : ∀ j u, [x, y][j]? = some u → w.cell? ((⟨cb, 0, none⟩ : Addr).add j) = some u := by
  intro j u hj
  rw [addr_add, Nat.zero_add, cell_of_row _ _ _ _ _ _ h, ← hj]
  match j, hj with
  | 0, _ => rfl
  | 1, _ => rfl
theorem put_slc {w : World} {base : Nat} {v : Value} {L : List (Nat × Nat)} {t p k z : Nat} (hz : z = p * 1024) (ht : t ≤ L.length) (h : w.ownsRow (base + 1) 132 2 v (0 + t + 1 + (L.length - t)) (([] ++ bcells (L.take t)) ++ [.int .i64 (z : Int), .int .i64 (k : Int)] ++ bcells (L.drop t))) : Slc w base v (L.take t ++ (p, k) :: L.drop t) := by
  have hl : (L.take t ++ (p, k) :: L.drop t).length = 0 + t + 1 + (L.length - t) := by simp; omega
  have hb : bcells (L.take t ++ (p, k) :: L.drop t) = ([] ++ bcells (L.take t)) ++ [.int .i64 (z : Int), .int .i64 (k : Int)] ++ bcells (L.drop t) := by
    rw [bcells_append, hz]; simp [bcells, encB]
  have h2 : w.ownsRow base 132 2 v (L.take t ++ (p, k) :: L.drop t).length (bcells (L.take t ++ (p, k) :: L.drop t)) := by
    rw [hl, hb]
    refine ⟨h.1, h.2.imp id ?_⟩
    rintro ⟨g, cap, cur, e, h1, r⟩
    exact ⟨g, cap, cur, e, by omega, r⟩
  exact slc_of h2

set_option maxHeartbeats 4000000 in
set_option maxRecDepth 100000 in
theorem put_some (w : World) (L : List (Nat × Nat)) (b c g p k : Nat) (hR : Rd w b (some ⟨g, 0, none⟩) L) (hl : L.length ≤ 100000000) (hc : L.length ≤ c) (hcm : c ≤ 9223372036854775807) (hp : p ≤ 1048576) (_hk : k ≤ 20) :
    Calls Tryz.prog 88 #[.slice (some ⟨g, 0, none⟩) L.length c, .agg #[.int .i64 ((p * 1024 : Nat) : Int), .int .i64 (k : Int)]] w (PutPost L p k w) := by
  obtain ⟨i0, hi0, hz0, hz1, hz2⟩ := info_parts info44
  have HIF := hid (And.intro hi0 (And.intro hz0 (And.intro hz1 hz2)))
  have HR := hid hR
  obtain ⟨z, hz⟩ : ∃ z : Nat, z = p * 1024 := ⟨_, rfl⟩
  rw [← hz]
  have hzb : z ≤ 1073741824 := by omega
  have HZ := hid hz
  clear hR hi0 hz0 hz1 hz2 hz
  go_enter Tryz.func88, Tryz.ntmps88
  go_wp2_with fail
  go_loopw [5] (fun v wr => ∃ t : Nat, t ≤ L.length ∧ v = .int .i64 (t : Int) ∧ Hid (∀ j q k' : Nat, t ≤ j → L[j]? = some (q, k') → p < q) ∧ Below (w.heap.size + 1) (w.alloc (.cells #[.int .i64 (z : Int), .int .i64 (k : Int)] 132)) wr) (fun v _ => (intOf v).toNat)
  case atStart => exact ⟨L.length, Nat.le_refl _, rfl, fun j q k' hj hx => by have := (List.getElem?_eq_some_iff.1 hx).1; omega, Below.refl _ _⟩
  case round =>
    obtain ⟨t, ht, rfl, hgt, hX⟩ := hrel
    have hbel : Hid (Below w.heap.size w wr) := ((Below.refl w.heap.size w).alloc (Nat.le_refl _) _).trans (hX.mono (Nat.le_succ _))
    have hbx := (hX.block w.heap.size (Nat.lt_succ_self _)).trans (heap_alloc_new w _)
    have b0 : wr.cell? ⟨w.heap.size, 0, none⟩ = some (.int .i64 (z : Int)) := by rw [cell_of_row _ _ _ _ _ _ hbx]; rfl
    have b1 : wr.cell? ⟨w.heap.size, 1, none⟩ = some (.int .i64 (k : Int)) := by rw [cell_of_row _ _ _ _ _ _ hbx]; rfl
    by_cases hgo : ∃ q k', 0 < t ∧ L[t - 1]? = some (q, k') ∧ p < q
    · obtain ⟨q, k', h0, hx, hlt⟩ := hgo
      obtain ⟨t', rfl⟩ : ∃ t', t = t' + 1 := ⟨t - 1, by omega⟩
      rw [Nat.add_sub_cancel] at hx
      obtain ⟨g', eg, c0, c1⟩ := (HR.out.below hbel.out).at hx
      obtain rfl : g = g' := by simpa using eg
      obtain ⟨zq, hzq⟩ : ∃ zq : Nat, zq = q * 1024 := ⟨_, rfl⟩
      rw [← hzq] at c0
      have hcmp : decide ((z : Int) < (zq : Int)) = true := by have := HZ.out; rw [decide_eq_true]; omega
      have hcmp2 : (z : Int) < (zq : Int) := of_decide_eq_true hcmp
      have h1 : ((t' + 1 : Nat) : Int) - 1 = (t' : Int) := by omega
      have h2 : (t' : Int) < (L.length : Int) := by omega
      have h3 : (0 : Int) < ((t' + 1 : Nat) : Int) := by omega
      have hd0 : decide ((0 : Int) < ((t' + 1 : Nat) : Int)) = true := decide_eq_true h3
      have HN : Hid (∀ j q k' : Nat, t' ≤ j → L[j]? = some (q, k') → p < q) := fun j q2 k2 hj hx2 => by
        by_cases e : j = t'
        · subst e
          rw [hx] at hx2
          obtain ⟨rfl, rfl⟩ : q = q2 ∧ k' = k2 := by simpa using hx2
          exact hlt
        · exact hgt.out j q2 k2 (by omega) hx2
      clear hx eg hgt hzq
      go_wp2_with fail
      go_quiet (fail)
      go_wp2_with fail
      exact ⟨⟨t', by omega, by go_num, HN, Below.drewN hX _⟩, by simp [intOf]⟩
    · have hstop : Hid (Stops L p t) := by
        refine ⟨ht, hgt.out, ?_⟩
        by_cases h0 : t = 0
        · exact .inl h0
        · right
          obtain ⟨⟨q, k'⟩, hx⟩ : ∃ x, L[t - 1]? = some x := ⟨_, List.getElem?_eq_getElem (by omega)⟩
          refine ⟨q, k', hx, ?_⟩
          apply Decidable.byContradiction
          intro h2
          exact hgo ⟨q, k', by omega, hx, by omega⟩
      have hguard : (t = 0) ∨ ∃ zq k' t' : Nat, t = t' + 1 ∧ wr.cell? ⟨g, t' * 2, none⟩ = some (.int .i64 (zq : Int)) ∧ wr.cell? ⟨g, t' * 2 + 1, none⟩ = some (.int .i64 (k' : Int)) ∧ zq ≤ z := by
        rcases hstop.out.2.2 with h0 | ⟨q, k', hx, hle⟩
        · exact .inl h0
        · by_cases h0 : t = 0
          · exact .inl h0
          · obtain ⟨t', rfl⟩ : ∃ t', t = t' + 1 := ⟨t - 1, by omega⟩
            rw [Nat.add_sub_cancel] at hx
            obtain ⟨g', eg, c0, c1⟩ := (HR.out.below hbel.out).at hx
            obtain rfl : g = g' := by simpa using eg
            exact .inr ⟨q * 1024, k', t', rfl, c0, c1, by have := HZ.out; omega⟩
      clear hgo
      have HGT := hgt
      clear hgt
      rcases hguard with h0 | ⟨zq, k', t', h0, c0, c1, hle⟩
      · have hd0 : decide (0 < t) = false := by rw [decide_eq_false]; omega
        clear h0
        by_cases hce : c = t
        · have HCE := hid hce
          clear hce
          go_wp2_with fail
          go_quiet (fail)
          go_wp2_with fail
          have hXz : Below (w.heap.size + 1) (w.alloc (.cells #[.int .i64 (z : Int), .int .i64 (k : Int)] 132)) (wr.drewN nq) := Below.drewN hX nq
          have b0z : (wr.drewN nq).cell? ⟨w.heap.size, 0, none⟩ = some (.int .i64 (z : Int)) := b0
          have b1z : (wr.drewN nq).cell? ⟨w.heap.size, 1, none⟩ = some (.int .i64 (k : Int)) := b1
          generalize wr.drewN nq = wz at *
          clear hbel hbx b0 b1 hX hd0
          have hsz : w.heap.size + 1 ≤ wz.heap.size := by have := hXz.size; simpa using this
          have htl : t ≤ L.length := hstop.out.1
          have hi2 : (0 : Int) ≤ (t : Int) := by omega
          have hi3 : (t : Int) ≤ (c : Int) := by omega
          have hi6 : (t : Int) ≤ (L.length : Int) := by omega
          have hi7 : (L.length : Int) ≤ (c : Int) := by omega
          have hlow : ∀ wx, Below (w.heap.size + 1) (w.alloc (.cells #[.int .i64 (z : Int), .int .i64 (k : Int)] 132)) wx → Below w.heap.size w wx := fun wx hx => ((Below.refl w.heap.size w).alloc (Nat.le_refl _) _).trans (hx.mono (Nat.le_succ _))
          have hbox : ∀ wx, Below (w.heap.size + 1) (w.alloc (.cells #[.int .i64 (z : Int), .int .i64 (k : Int)] 132)) wx → wx.cell? ⟨w.heap.size, 0, none⟩ = some (.int .i64 (z : Int)) ∧ wx.cell? ⟨w.heap.size, 1, none⟩ = some (.int .i64 (k : Int)) := fun wx hx => by
            have hbk := (hx.block w.heap.size (Nat.lt_succ_self _)).trans (heap_alloc_new w _)
            exact ⟨by rw [cell_of_row _ _ _ _ _ _ hbk]; rfl, by rw [cell_of_row _ _ _ _ _ _ hbk]; rfl⟩
          have hB1 : Below (w.heap.size + 1) (w.alloc (.cells #[.int .i64 (z : Int), .int .i64 (k : Int)] 132)) (wz.drew.alloc (.cells #[] 132)) := hXz.drew.alloc hsz _
          have hB2 : Below (w.heap.size + 1) (w.alloc (.cells #[.int .i64 (z : Int), .int .i64 (k : Int)] 132)) ((wz.drew.alloc (.cells #[] 132)).alloc (.cells #[.int .i64 (z : Int), .int .i64 (k : Int)] 132)) := (hXz.drew.alloc hsz _).alloc (by simp; omega) _
          have hB3 : Below (w.heap.size + 1) (w.alloc (.cells #[.int .i64 (z : Int), .int .i64 (k : Int)] 132)) ((wz.drew.alloc (.cells #[.int .i64 (z : Int), .int .i64 (k : Int)] 132)).alloc (.cells #[] 132)) := (hXz.drew.alloc hsz _).alloc (by simp; omega) _
          have hO1 : (wz.drew.alloc (.cells #[] 132)).ownsRow (w.heap.size + 1) 132 2 (.slice (some ⟨wz.heap.size, 0, none⟩) 0 0) 0 [] := World.ownsRow_lit wz.drew #[] 0 hsz (by unfold maxLen; omega) rfl
          have hO3 : ((wz.drew.alloc (.cells #[.int .i64 (z : Int), .int .i64 (k : Int)] 132)).alloc (.cells #[] 132)).ownsRow (w.heap.size + 1) 132 2 (.slice (some ⟨wz.heap.size + 1, 0, none⟩) 0 0) 0 [] := by
            have h := World.ownsRow_lit (base := w.heap.size + 1) (e := 132) (size := 2) (wz.drew.alloc (.cells #[.int .i64 (z : Int), .int .i64 (k : Int)] 132)) #[] 0 (by simp; omega) (by unfold maxLen; omega) rfl
            simpa using h
          have hn1 : (bcells (L.take t)).length = t * 2 := by rw [bcells_length, List.length_take]; omega
          have hn3 : (bcells (L.drop t)).length = (L.length - t) * 2 := by rw [bcells_length, List.length_drop]
          have hN1 : ∀ wx, Below (w.heap.size + 1) (w.alloc (.cells #[.int .i64 (z : Int), .int .i64 (k : Int)] 132)) wx → ∀ j u, (bcells (L.take t))[j]? = some u → wx.cell? ((⟨g, 0, none⟩ : Addr).add j) = some u := fun wx hx => news_take (HR.out.below (hlow wx hx)) t
          have hN3 : ∀ wx, Below (w.heap.size + 1) (w.alloc (.cells #[.int .i64 (z : Int), .int .i64 (k : Int)] 132)) wx → ∀ j u, (bcells (L.drop t))[j]? = some u → wx.cell? ((⟨g, 0, none⟩ : Addr).add j) = some u := fun wx hx => fun j u hj => by
              rw [List.drop_eq_nil_of_le (by have := HCE.out; omega)] at hj
              simp [bcells] at hj
          have hC1 : ((wz.drew.alloc (.cells #[] 132)).alloc (.cells #[.int .i64 (z : Int), .int .i64 (k : Int)] 132)).heap[wz.heap.size + 1]? = some (.cells #[.int .i64 (z : Int), .int .i64 (k : Int)] 132) := by have := heap_alloc_new (wz.drew.alloc (.cells #[] 132)) (.cells #[.int .i64 (z : Int), .int .i64 (k : Int)] 132); simpa using this
          have hC3 : ((wz.drew.alloc (.cells #[.int .i64 (z : Int), .int .i64 (k : Int)] 132)).alloc (.cells #[] 132)).heap[wz.heap.size]? = some (.cells #[.int .i64 (z : Int), .int .i64 (k : Int)] 132) := heap_alloc2_old wz.drew _ _
          have HE := hid (And.intro hB1 (And.intro hB2 (And.intro hB3 (And.intro hO1 (And.intro (hO1.alloc (.cells #[.int .i64 (z : Int), .int .i64 (k : Int)] 132)) (And.intro hO3 (And.intro hC1 hC3)))))))
          have HN := hid (And.intro hn1 (And.intro hn3 (And.intro hN1 (And.intro hN3 (And.intro hlow hbox)))))
          clear hB1 hB2 hB3 hO1 hO3 hn1 hn3 hN1 hN3 hlow hbox hC1 hC3
          go_region_held3 (fun wx => wx.cell? ⟨w.heap.size, 0, none⟩ = some (.int .i64 (z : Int)) ∧ wx.cell? ⟨w.heap.size, 1, none⟩ = some (.int .i64 (k : Int))) (first | exact ⟨b0z, b1z⟩ | exact HN.out.2.2.2.2.2 _ hX3 | exact HN.out.2.2.2.2.2 _ hX2 | exact HN.out.2.2.2.2.2 _ (hX1.alloc (by have := hX1.size; simp at this ⊢; omega) _) | exact HN.out.2.2.2.2.2 _ hX1 | go_keep)
            (first
              | (refine step_append_any _ (by rfl) _ _ _ (by rfl) (w.heap.size + 1) 132 i0 (.agg #[.int .i64 0, .int .i64 0]) 2 16 Tryz.underlying50 HIF.out.1 HIF.out.2.1 HIF.out.2.2.1 HIF.out.2.2.2 rfl (by decide) (.slice (some ⟨wz.heap.size, 0, none⟩) 0 0) 0 [] (by rfl) HE.out.2.2.2.1 ⟨g, 0, none⟩ t c (bcells (L.take t)) (by rfl) HN.out.1 (HN.out.2.2.1 _ HE.out.1) (fun u hu => bcells_one u _ hu) (by unfold maxLen; omega) (by omega) (by simp; omega) ?_; intro v1 w1 hown1 hg1
                 have hX1 : Below (w.heap.size + 1) (w.alloc (.cells #[.int .i64 (z : Int), .int .i64 (k : Int)] 132)) w1 := Below.grown HE.out.1 hg1 (by simp; omega) (fun j hj => by cases hj; exact hsz))
              | (refine step_append_any _ (by rfl) _ _ _ (by rfl) (w.heap.size + 1) 132 i0 (.agg #[.int .i64 0, .int .i64 0]) 2 16 Tryz.underlying50 HIF.out.1 HIF.out.2.1 HIF.out.2.2.1 HIF.out.2.2.2 rfl (by decide) (.slice (some ⟨wz.heap.size, 0, none⟩) 0 0) 0 [] (by rfl) HE.out.2.2.2.2.1 ⟨g, 0, none⟩ t c (bcells (L.take t)) (by rfl) HN.out.1 (HN.out.2.2.1 _ HE.out.2.1) (fun u hu => bcells_one u _ hu) (by unfold maxLen; omega) (by omega) (by simp; omega) ?_; intro v1 w1 hown1 hg1
                 have hX1 : Below (w.heap.size + 1) (w.alloc (.cells #[.int .i64 (z : Int), .int .i64 (k : Int)] 132)) w1 := Below.grown HE.out.2.1 hg1 (by simp; omega) (fun j hj => by cases hj; exact hsz)
                 have hcb : w1.heap[wz.heap.size + 1]? = some (.cells #[.int .i64 (z : Int), .int .i64 (k : Int)] 132) := (hg1.block _ (by simp) (by simp [Value.ownBlock])).trans HE.out.2.2.2.2.2.2.1)
              | (refine step_append_any _ (by rfl) _ _ _ (by rfl) (w.heap.size + 1) 132 i0 (.agg #[.int .i64 0, .int .i64 0]) 2 16 Tryz.underlying50 HIF.out.1 HIF.out.2.1 HIF.out.2.2.1 HIF.out.2.2.2 rfl (by decide) (.slice (some ⟨wz.heap.size + 1, 0, none⟩) 0 0) 0 [] (by rfl) HE.out.2.2.2.2.2.1 ⟨g, 0, none⟩ t c (bcells (L.take t)) (by rfl) HN.out.1 (HN.out.2.2.1 _ HE.out.2.2.1) (fun u hu => bcells_one u _ hu) (by unfold maxLen; omega) (by omega) (by simp; omega) ?_; intro v1 w1 hown1 hg1
                 have hX1 : Below (w.heap.size + 1) (w.alloc (.cells #[.int .i64 (z : Int), .int .i64 (k : Int)] 132)) w1 := Below.grown HE.out.2.2.1 hg1 (by simp; omega) (fun j hj => by cases hj; exact Nat.le_succ_of_le hsz)
                 have hcb : w1.heap[wz.heap.size]? = some (.cells #[.int .i64 (z : Int), .int .i64 (k : Int)] 132) := (hg1.block _ (by simp; omega) (by simp [Value.ownBlock])).trans HE.out.2.2.2.2.2.2.2)
              | (refine step_append_any _ (by rfl) _ _ _ (by rfl) (w.heap.size + 1) 132 i0 (.agg #[.int .i64 0, .int .i64 0]) 2 16 Tryz.underlying50 HIF.out.1 HIF.out.2.1 HIF.out.2.2.1 HIF.out.2.2.2 rfl (by decide) v1 (0 + t) ([] ++ bcells (L.take t)) (by rfl) (hown1.alloc (.cells #[.int .i64 (z : Int), .int .i64 (k : Int)] 132)) ⟨w1.heap.size, 0, none⟩ 1 1 [.int .i64 (z : Int), .int .i64 (k : Int)] (by rfl) rfl (pair_news (heap_alloc_new w1 (.cells #[.int .i64 (z : Int), .int .i64 (k : Int)] 132))) (by simp [Value.oneCell']) (by unfold maxLen; omega) (by omega) (by have := hX1.size; simp at this ⊢; omega) ?_; intro v2 w2 hown2 hg2
                 have hX2 : Below (w.heap.size + 1) (w.alloc (.cells #[.int .i64 (z : Int), .int .i64 (k : Int)] 132)) w2 := Below.grown (hX1.alloc (by have := hX1.size; simpa using this) (.cells #[.int .i64 (z : Int), .int .i64 (k : Int)] 132)) hg2 (by have := hX1.size; simp at this ⊢; omega) (own_block hown1))
              | (refine step_append_any _ (by rfl) _ _ _ (by rfl) (w.heap.size + 1) 132 i0 (.agg #[.int .i64 0, .int .i64 0]) 2 16 Tryz.underlying50 HIF.out.1 HIF.out.2.1 HIF.out.2.2.1 HIF.out.2.2.2 rfl (by decide) v1 (0 + t) ([] ++ bcells (L.take t)) (by rfl) hown1 ⟨_, 0, none⟩ 1 1 [.int .i64 (z : Int), .int .i64 (k : Int)] (by rfl) rfl (pair_news hcb) (by simp [Value.oneCell']) (by unfold maxLen; omega) (by omega) (by have := hX1.size; simpa using this) ?_; intro v2 w2 hown2 hg2
                 have hX2 : Below (w.heap.size + 1) (w.alloc (.cells #[.int .i64 (z : Int), .int .i64 (k : Int)] 132)) w2 := Below.grown hX1 hg2 (by have := hX1.size; simpa using this) (own_block hown1))
              | (refine step_append_any _ (by rfl) _ _ _ (by rfl) (w.heap.size + 1) 132 i0 (.agg #[.int .i64 0, .int .i64 0]) 2 16 Tryz.underlying50 HIF.out.1 HIF.out.2.1 HIF.out.2.2.1 HIF.out.2.2.2 rfl (by decide) v2 (0 + t + 1) (([] ++ bcells (L.take t)) ++ [.int .i64 (z : Int), .int .i64 (k : Int)]) (by rfl) hown2 ⟨g, 0, none⟩ (L.length - t) (c - t) (bcells (L.drop t)) (by show Value.slice (if c = t then some (⟨g, 0, none⟩ : Addr) else some ⟨g, t * 2, none⟩) (L.length - t) (c - t) = _; rw [if_pos HCE.out]) HN.out.2.1 (HN.out.2.2.2.1 _ hX2) (fun u hu => bcells_one u _ hu) (by unfold maxLen; omega) (by omega) (by have := hX2.size; simpa using this) ?_; intro v3 w3 hown3 hg3
                 have hX3 : Below (w.heap.size + 1) (w.alloc (.cells #[.int .i64 (z : Int), .int .i64 (k : Int)] 132)) w3 := Below.grown hX2 hg3 (by have := hX2.size; simpa using this) (own_block hown2)))
          all_goals
            have hsl := hid (put_slc HZ.out htl hown3)
            have hXw := HN.out.2.2.2.2.1 _ hX3
            clear hown1 hown2 hown3 hg1 hg2 hg3
            go_wp2_with fail
            go_ret
            exact ⟨_, t, rfl, hstop.out, hsl.out, hXw⟩
        · have HCE := hid hce
          clear hce
          go_wp2_with fail
          go_quiet (fail)
          go_wp2_with fail
          have hXz : Below (w.heap.size + 1) (w.alloc (.cells #[.int .i64 (z : Int), .int .i64 (k : Int)] 132)) (wr.drewN nq) := Below.drewN hX nq
          have b0z : (wr.drewN nq).cell? ⟨w.heap.size, 0, none⟩ = some (.int .i64 (z : Int)) := b0
          have b1z : (wr.drewN nq).cell? ⟨w.heap.size, 1, none⟩ = some (.int .i64 (k : Int)) := b1
          generalize wr.drewN nq = wz at *
          clear hbel hbx b0 b1 hX hd0
          have hsz : w.heap.size + 1 ≤ wz.heap.size := by have := hXz.size; simpa using this
          have htl : t ≤ L.length := hstop.out.1
          have hi2 : (0 : Int) ≤ (t : Int) := by omega
          have hi3 : (t : Int) ≤ (c : Int) := by omega
          have hi6 : (t : Int) ≤ (L.length : Int) := by omega
          have hi7 : (L.length : Int) ≤ (c : Int) := by omega
          have hlow : ∀ wx, Below (w.heap.size + 1) (w.alloc (.cells #[.int .i64 (z : Int), .int .i64 (k : Int)] 132)) wx → Below w.heap.size w wx := fun wx hx => ((Below.refl w.heap.size w).alloc (Nat.le_refl _) _).trans (hx.mono (Nat.le_succ _))
          have hbox : ∀ wx, Below (w.heap.size + 1) (w.alloc (.cells #[.int .i64 (z : Int), .int .i64 (k : Int)] 132)) wx → wx.cell? ⟨w.heap.size, 0, none⟩ = some (.int .i64 (z : Int)) ∧ wx.cell? ⟨w.heap.size, 1, none⟩ = some (.int .i64 (k : Int)) := fun wx hx => by
            have hbk := (hx.block w.heap.size (Nat.lt_succ_self _)).trans (heap_alloc_new w _)
            exact ⟨by rw [cell_of_row _ _ _ _ _ _ hbk]; rfl, by rw [cell_of_row _ _ _ _ _ _ hbk]; rfl⟩
          have hB1 : Below (w.heap.size + 1) (w.alloc (.cells #[.int .i64 (z : Int), .int .i64 (k : Int)] 132)) (wz.drew.alloc (.cells #[] 132)) := hXz.drew.alloc hsz _
          have hB2 : Below (w.heap.size + 1) (w.alloc (.cells #[.int .i64 (z : Int), .int .i64 (k : Int)] 132)) ((wz.drew.alloc (.cells #[] 132)).alloc (.cells #[.int .i64 (z : Int), .int .i64 (k : Int)] 132)) := (hXz.drew.alloc hsz _).alloc (by simp; omega) _
          have hB3 : Below (w.heap.size + 1) (w.alloc (.cells #[.int .i64 (z : Int), .int .i64 (k : Int)] 132)) ((wz.drew.alloc (.cells #[.int .i64 (z : Int), .int .i64 (k : Int)] 132)).alloc (.cells #[] 132)) := (hXz.drew.alloc hsz _).alloc (by simp; omega) _
          have hO1 : (wz.drew.alloc (.cells #[] 132)).ownsRow (w.heap.size + 1) 132 2 (.slice (some ⟨wz.heap.size, 0, none⟩) 0 0) 0 [] := World.ownsRow_lit wz.drew #[] 0 hsz (by unfold maxLen; omega) rfl
          have hO3 : ((wz.drew.alloc (.cells #[.int .i64 (z : Int), .int .i64 (k : Int)] 132)).alloc (.cells #[] 132)).ownsRow (w.heap.size + 1) 132 2 (.slice (some ⟨wz.heap.size + 1, 0, none⟩) 0 0) 0 [] := by
            have h := World.ownsRow_lit (base := w.heap.size + 1) (e := 132) (size := 2) (wz.drew.alloc (.cells #[.int .i64 (z : Int), .int .i64 (k : Int)] 132)) #[] 0 (by simp; omega) (by unfold maxLen; omega) rfl
            simpa using h
          have hn1 : (bcells (L.take t)).length = t * 2 := by rw [bcells_length, List.length_take]; omega
          have hn3 : (bcells (L.drop t)).length = (L.length - t) * 2 := by rw [bcells_length, List.length_drop]
          have hN1 : ∀ wx, Below (w.heap.size + 1) (w.alloc (.cells #[.int .i64 (z : Int), .int .i64 (k : Int)] 132)) wx → ∀ j u, (bcells (L.take t))[j]? = some u → wx.cell? ((⟨g, 0, none⟩ : Addr).add j) = some u := fun wx hx => news_take (HR.out.below (hlow wx hx)) t
          have hN3 : ∀ wx, Below (w.heap.size + 1) (w.alloc (.cells #[.int .i64 (z : Int), .int .i64 (k : Int)] 132)) wx → ∀ j u, (bcells (L.drop t))[j]? = some u → wx.cell? ((⟨g, t * 2, none⟩ : Addr).add j) = some u := fun wx hx => news_drop (HR.out.below (hlow wx hx)) t htl
          have hC1 : ((wz.drew.alloc (.cells #[] 132)).alloc (.cells #[.int .i64 (z : Int), .int .i64 (k : Int)] 132)).heap[wz.heap.size + 1]? = some (.cells #[.int .i64 (z : Int), .int .i64 (k : Int)] 132) := by have := heap_alloc_new (wz.drew.alloc (.cells #[] 132)) (.cells #[.int .i64 (z : Int), .int .i64 (k : Int)] 132); simpa using this
          have hC3 : ((wz.drew.alloc (.cells #[.int .i64 (z : Int), .int .i64 (k : Int)] 132)).alloc (.cells #[] 132)).heap[wz.heap.size]? = some (.cells #[.int .i64 (z : Int), .int .i64 (k : Int)] 132) := heap_alloc2_old wz.drew _ _
          have HE := hid (And.intro hB1 (And.intro hB2 (And.intro hB3 (And.intro hO1 (And.intro (hO1.alloc (.cells #[.int .i64 (z : Int), .int .i64 (k : Int)] 132)) (And.intro hO3 (And.intro hC1 hC3)))))))
          have HN := hid (And.intro hn1 (And.intro hn3 (And.intro hN1 (And.intro hN3 (And.intro hlow hbox)))))
          clear hB1 hB2 hB3 hO1 hO3 hn1 hn3 hN1 hN3 hlow hbox hC1 hC3
          go_region_held3 (fun wx => wx.cell? ⟨w.heap.size, 0, none⟩ = some (.int .i64 (z : Int)) ∧ wx.cell? ⟨w.heap.size, 1, none⟩ = some (.int .i64 (k : Int))) (first | exact ⟨b0z, b1z⟩ | exact HN.out.2.2.2.2.2 _ hX3 | exact HN.out.2.2.2.2.2 _ hX2 | exact HN.out.2.2.2.2.2 _ (hX1.alloc (by have := hX1.size; simp at this ⊢; omega) _) | exact HN.out.2.2.2.2.2 _ hX1 | go_keep)
            (first
              | (refine step_append_any _ (by rfl) _ _ _ (by rfl) (w.heap.size + 1) 132 i0 (.agg #[.int .i64 0, .int .i64 0]) 2 16 Tryz.underlying50 HIF.out.1 HIF.out.2.1 HIF.out.2.2.1 HIF.out.2.2.2 rfl (by decide) (.slice (some ⟨wz.heap.size, 0, none⟩) 0 0) 0 [] (by rfl) HE.out.2.2.2.1 ⟨g, 0, none⟩ t c (bcells (L.take t)) (by rfl) HN.out.1 (HN.out.2.2.1 _ HE.out.1) (fun u hu => bcells_one u _ hu) (by unfold maxLen; omega) (by omega) (by simp; omega) ?_; intro v1 w1 hown1 hg1
                 have hX1 : Below (w.heap.size + 1) (w.alloc (.cells #[.int .i64 (z : Int), .int .i64 (k : Int)] 132)) w1 := Below.grown HE.out.1 hg1 (by simp; omega) (fun j hj => by cases hj; exact hsz))
              | (refine step_append_any _ (by rfl) _ _ _ (by rfl) (w.heap.size + 1) 132 i0 (.agg #[.int .i64 0, .int .i64 0]) 2 16 Tryz.underlying50 HIF.out.1 HIF.out.2.1 HIF.out.2.2.1 HIF.out.2.2.2 rfl (by decide) (.slice (some ⟨wz.heap.size, 0, none⟩) 0 0) 0 [] (by rfl) HE.out.2.2.2.2.1 ⟨g, 0, none⟩ t c (bcells (L.take t)) (by rfl) HN.out.1 (HN.out.2.2.1 _ HE.out.2.1) (fun u hu => bcells_one u _ hu) (by unfold maxLen; omega) (by omega) (by simp; omega) ?_; intro v1 w1 hown1 hg1
                 have hX1 : Below (w.heap.size + 1) (w.alloc (.cells #[.int .i64 (z : Int), .int .i64 (k : Int)] 132)) w1 := Below.grown HE.out.2.1 hg1 (by simp; omega) (fun j hj => by cases hj; exact hsz)
                 have hcb : w1.heap[wz.heap.size + 1]? = some (.cells #[.int .i64 (z : Int), .int .i64 (k : Int)] 132) := (hg1.block _ (by simp) (by simp [Value.ownBlock])).trans HE.out.2.2.2.2.2.2.1)
              | (refine step_append_any _ (by rfl) _ _ _ (by rfl) (w.heap.size + 1) 132 i0 (.agg #[.int .i64 0, .int .i64 0]) 2 16 Tryz.underlying50 HIF.out.1 HIF.out.2.1 HIF.out.2.2.1 HIF.out.2.2.2 rfl (by decide) (.slice (some ⟨wz.heap.size + 1, 0, none⟩) 0 0) 0 [] (by rfl) HE.out.2.2.2.2.2.1 ⟨g, 0, none⟩ t c (bcells (L.take t)) (by rfl) HN.out.1 (HN.out.2.2.1 _ HE.out.2.2.1) (fun u hu => bcells_one u _ hu) (by unfold maxLen; omega) (by omega) (by simp; omega) ?_; intro v1 w1 hown1 hg1
                 have hX1 : Below (w.heap.size + 1) (w.alloc (.cells #[.int .i64 (z : Int), .int .i64 (k : Int)] 132)) w1 := Below.grown HE.out.2.2.1 hg1 (by simp; omega) (fun j hj => by cases hj; exact Nat.le_succ_of_le hsz)
                 have hcb : w1.heap[wz.heap.size]? = some (.cells #[.int .i64 (z : Int), .int .i64 (k : Int)] 132) := (hg1.block _ (by simp; omega) (by simp [Value.ownBlock])).trans HE.out.2.2.2.2.2.2.2)
              | (refine step_append_any _ (by rfl) _ _ _ (by rfl) (w.heap.size + 1) 132 i0 (.agg #[.int .i64 0, .int .i64 0]) 2 16 Tryz.underlying50 HIF.out.1 HIF.out.2.1 HIF.out.2.2.1 HIF.out.2.2.2 rfl (by decide) v1 (0 + t) ([] ++ bcells (L.take t)) (by rfl) (hown1.alloc (.cells #[.int .i64 (z : Int), .int .i64 (k : Int)] 132)) ⟨w1.heap.size, 0, none⟩ 1 1 [.int .i64 (z : Int), .int .i64 (k : Int)] (by rfl) rfl (pair_news (heap_alloc_new w1 (.cells #[.int .i64 (z : Int), .int .i64 (k : Int)] 132))) (by simp [Value.oneCell']) (by unfold maxLen; omega) (by omega) (by have := hX1.size; simp at this ⊢; omega) ?_; intro v2 w2 hown2 hg2
                 have hX2 : Below (w.heap.size + 1) (w.alloc (.cells #[.int .i64 (z : Int), .int .i64 (k : Int)] 132)) w2 := Below.grown (hX1.alloc (by have := hX1.size; simpa using this) (.cells #[.int .i64 (z : Int), .int .i64 (k : Int)] 132)) hg2 (by have := hX1.size; simp at this ⊢; omega) (own_block hown1))
              | (refine step_append_any _ (by rfl) _ _ _ (by rfl) (w.heap.size + 1) 132 i0 (.agg #[.int .i64 0, .int .i64 0]) 2 16 Tryz.underlying50 HIF.out.1 HIF.out.2.1 HIF.out.2.2.1 HIF.out.2.2.2 rfl (by decide) v1 (0 + t) ([] ++ bcells (L.take t)) (by rfl) hown1 ⟨_, 0, none⟩ 1 1 [.int .i64 (z : Int), .int .i64 (k : Int)] (by rfl) rfl (pair_news hcb) (by simp [Value.oneCell']) (by unfold maxLen; omega) (by omega) (by have := hX1.size; simpa using this) ?_; intro v2 w2 hown2 hg2
                 have hX2 : Below (w.heap.size + 1) (w.alloc (.cells #[.int .i64 (z : Int), .int .i64 (k : Int)] 132)) w2 := Below.grown hX1 hg2 (by have := hX1.size; simpa using this) (own_block hown1))
              | (refine step_append_any _ (by rfl) _ _ _ (by rfl) (w.heap.size + 1) 132 i0 (.agg #[.int .i64 0, .int .i64 0]) 2 16 Tryz.underlying50 HIF.out.1 HIF.out.2.1 HIF.out.2.2.1 HIF.out.2.2.2 rfl (by decide) v2 (0 + t + 1) (([] ++ bcells (L.take t)) ++ [.int .i64 (z : Int), .int .i64 (k : Int)]) (by rfl) hown2 ⟨g, t * 2, none⟩ (L.length - t) (c - t) (bcells (L.drop t)) (by show Value.slice (if c = t then some (⟨g, 0, none⟩ : Addr) else some ⟨g, t * 2, none⟩) (L.length - t) (c - t) = _; rw [if_neg HCE.out]) HN.out.2.1 (HN.out.2.2.2.1 _ hX2) (fun u hu => bcells_one u _ hu) (by unfold maxLen; omega) (by omega) (by have := hX2.size; simpa using this) ?_; intro v3 w3 hown3 hg3
                 have hX3 : Below (w.heap.size + 1) (w.alloc (.cells #[.int .i64 (z : Int), .int .i64 (k : Int)] 132)) w3 := Below.grown hX2 hg3 (by have := hX2.size; simpa using this) (own_block hown2)))
          all_goals
            have hsl := hid (put_slc HZ.out htl hown3)
            have hXw := HN.out.2.2.2.2.1 _ hX3
            clear hown1 hown2 hown3 hg1 hg2 hg3
            go_wp2_with fail
            go_ret
            exact ⟨_, t, rfl, hstop.out, hsl.out, hXw⟩
      · have hd0 : decide (0 < t) = true := by rw [decide_eq_true]; omega
        have hcmp : decide ((z : Int) < (zq : Int)) = false := by rw [decide_eq_false]; omega
        have hcmp2 : decide (z < zq) = false := by rw [decide_eq_false]; omega
        have h1 : (t : Int) - 1 = (t' : Int) := by omega
        have h2 : (t' : Int) < (L.length : Int) := by omega
        clear h0
        by_cases hce : c = t
        · have HCE := hid hce
          clear hce
          go_wp2_with fail
          go_quiet (fail)
          go_wp2_with fail
          have hXz : Below (w.heap.size + 1) (w.alloc (.cells #[.int .i64 (z : Int), .int .i64 (k : Int)] 132)) (wr.drewN nq) := Below.drewN hX nq
          have b0z : (wr.drewN nq).cell? ⟨w.heap.size, 0, none⟩ = some (.int .i64 (z : Int)) := b0
          have b1z : (wr.drewN nq).cell? ⟨w.heap.size, 1, none⟩ = some (.int .i64 (k : Int)) := b1
          generalize wr.drewN nq = wz at *
          clear hbel hbx b0 b1 hX hd0 hcmp hcmp2 h1 h2 c0 c1 hle
          have hsz : w.heap.size + 1 ≤ wz.heap.size := by have := hXz.size; simpa using this
          have htl : t ≤ L.length := hstop.out.1
          have hi2 : (0 : Int) ≤ (t : Int) := by omega
          have hi3 : (t : Int) ≤ (c : Int) := by omega
          have hi6 : (t : Int) ≤ (L.length : Int) := by omega
          have hi7 : (L.length : Int) ≤ (c : Int) := by omega
          have hlow : ∀ wx, Below (w.heap.size + 1) (w.alloc (.cells #[.int .i64 (z : Int), .int .i64 (k : Int)] 132)) wx → Below w.heap.size w wx := fun wx hx => ((Below.refl w.heap.size w).alloc (Nat.le_refl _) _).trans (hx.mono (Nat.le_succ _))
          have hbox : ∀ wx, Below (w.heap.size + 1) (w.alloc (.cells #[.int .i64 (z : Int), .int .i64 (k : Int)] 132)) wx → wx.cell? ⟨w.heap.size, 0, none⟩ = some (.int .i64 (z : Int)) ∧ wx.cell? ⟨w.heap.size, 1, none⟩ = some (.int .i64 (k : Int)) := fun wx hx => by
            have hbk := (hx.block w.heap.size (Nat.lt_succ_self _)).trans (heap_alloc_new w _)
            exact ⟨by rw [cell_of_row _ _ _ _ _ _ hbk]; rfl, by rw [cell_of_row _ _ _ _ _ _ hbk]; rfl⟩
          have hB1 : Below (w.heap.size + 1) (w.alloc (.cells #[.int .i64 (z : Int), .int .i64 (k : Int)] 132)) (wz.drew.alloc (.cells #[] 132)) := hXz.drew.alloc hsz _
          have hB2 : Below (w.heap.size + 1) (w.alloc (.cells #[.int .i64 (z : Int), .int .i64 (k : Int)] 132)) ((wz.drew.alloc (.cells #[] 132)).alloc (.cells #[.int .i64 (z : Int), .int .i64 (k : Int)] 132)) := (hXz.drew.alloc hsz _).alloc (by simp; omega) _
          have hB3 : Below (w.heap.size + 1) (w.alloc (.cells #[.int .i64 (z : Int), .int .i64 (k : Int)] 132)) ((wz.drew.alloc (.cells #[.int .i64 (z : Int), .int .i64 (k : Int)] 132)).alloc (.cells #[] 132)) := (hXz.drew.alloc hsz _).alloc (by simp; omega) _
          have hO1 : (wz.drew.alloc (.cells #[] 132)).ownsRow (w.heap.size + 1) 132 2 (.slice (some ⟨wz.heap.size, 0, none⟩) 0 0) 0 [] := World.ownsRow_lit wz.drew #[] 0 hsz (by unfold maxLen; omega) rfl
          have hO3 : ((wz.drew.alloc (.cells #[.int .i64 (z : Int), .int .i64 (k : Int)] 132)).alloc (.cells #[] 132)).ownsRow (w.heap.size + 1) 132 2 (.slice (some ⟨wz.heap.size + 1, 0, none⟩) 0 0) 0 [] := by
            have h := World.ownsRow_lit (base := w.heap.size + 1) (e := 132) (size := 2) (wz.drew.alloc (.cells #[.int .i64 (z : Int), .int .i64 (k : Int)] 132)) #[] 0 (by simp; omega) (by unfold maxLen; omega) rfl
            simpa using h
          have hn1 : (bcells (L.take t)).length = t * 2 := by rw [bcells_length, List.length_take]; omega
          have hn3 : (bcells (L.drop t)).length = (L.length - t) * 2 := by rw [bcells_length, List.length_drop]
          have hN1 : ∀ wx, Below (w.heap.size + 1) (w.alloc (.cells #[.int .i64 (z : Int), .int .i64 (k : Int)] 132)) wx → ∀ j u, (bcells (L.take t))[j]? = some u → wx.cell? ((⟨g, 0, none⟩ : Addr).add j) = some u := fun wx hx => news_take (HR.out.below (hlow wx hx)) t
          have hN3 : ∀ wx, Below (w.heap.size + 1) (w.alloc (.cells #[.int .i64 (z : Int), .int .i64 (k : Int)] 132)) wx → ∀ j u, (bcells (L.drop t))[j]? = some u → wx.cell? ((⟨g, 0, none⟩ : Addr).add j) = some u := fun wx hx => fun j u hj => by
              rw [List.drop_eq_nil_of_le (by have := HCE.out; omega)] at hj
              simp [bcells] at hj
          have hC1 : ((wz.drew.alloc (.cells #[] 132)).alloc (.cells #[.int .i64 (z : Int), .int .i64 (k : Int)] 132)).heap[wz.heap.size + 1]? = some (.cells #[.int .i64 (z : Int), .int .i64 (k : Int)] 132) := by have := heap_alloc_new (wz.drew.alloc (.cells #[] 132)) (.cells #[.int .i64 (z : Int), .int .i64 (k : Int)] 132); simpa using this
          have hC3 : ((wz.drew.alloc (.cells #[.int .i64 (z : Int), .int .i64 (k : Int)] 132)).alloc (.cells #[] 132)).heap[wz.heap.size]? = some (.cells #[.int .i64 (z : Int), .int .i64 (k : Int)] 132) := heap_alloc2_old wz.drew _ _
          have HE := hid (And.intro hB1 (And.intro hB2 (And.intro hB3 (And.intro hO1 (And.intro (hO1.alloc (.cells #[.int .i64 (z : Int), .int .i64 (k : Int)] 132)) (And.intro hO3 (And.intro hC1 hC3)))))))
          have HN := hid (And.intro hn1 (And.intro hn3 (And.intro hN1 (And.intro hN3 (And.intro hlow hbox)))))
          clear hB1 hB2 hB3 hO1 hO3 hn1 hn3 hN1 hN3 hlow hbox hC1 hC3
          go_region_held3 (fun wx => wx.cell? ⟨w.heap.size, 0, none⟩ = some (.int .i64 (z : Int)) ∧ wx.cell? ⟨w.heap.size, 1, none⟩ = some (.int .i64 (k : Int))) (first | exact ⟨b0z, b1z⟩ | exact HN.out.2.2.2.2.2 _ hX3 | exact HN.out.2.2.2.2.2 _ hX2 | exact HN.out.2.2.2.2.2 _ (hX1.alloc (by have := hX1.size; simp at this ⊢; omega) _) | exact HN.out.2.2.2.2.2 _ hX1 | go_keep)
            (first
              | (refine step_append_any _ (by rfl) _ _ _ (by rfl) (w.heap.size + 1) 132 i0 (.agg #[.int .i64 0, .int .i64 0]) 2 16 Tryz.underlying50 HIF.out.1 HIF.out.2.1 HIF.out.2.2.1 HIF.out.2.2.2 rfl (by decide) (.slice (some ⟨wz.heap.size, 0, none⟩) 0 0) 0 [] (by rfl) HE.out.2.2.2.1 ⟨g, 0, none⟩ t c (bcells (L.take t)) (by rfl) HN.out.1 (HN.out.2.2.1 _ HE.out.1) (fun u hu => bcells_one u _ hu) (by unfold maxLen; omega) (by omega) (by simp; omega) ?_; intro v1 w1 hown1 hg1
                 have hX1 : Below (w.heap.size + 1) (w.alloc (.cells #[.int .i64 (z : Int), .int .i64 (k : Int)] 132)) w1 := Below.grown HE.out.1 hg1 (by simp; omega) (fun j hj => by cases hj; exact hsz))
              | (refine step_append_any _ (by rfl) _ _ _ (by rfl) (w.heap.size + 1) 132 i0 (.agg #[.int .i64 0, .int .i64 0]) 2 16 Tryz.underlying50 HIF.out.1 HIF.out.2.1 HIF.out.2.2.1 HIF.out.2.2.2 rfl (by decide) (.slice (some ⟨wz.heap.size, 0, none⟩) 0 0) 0 [] (by rfl) HE.out.2.2.2.2.1 ⟨g, 0, none⟩ t c (bcells (L.take t)) (by rfl) HN.out.1 (HN.out.2.2.1 _ HE.out.2.1) (fun u hu => bcells_one u _ hu) (by unfold maxLen; omega) (by omega) (by simp; omega) ?_; intro v1 w1 hown1 hg1
                 have hX1 : Below (w.heap.size + 1) (w.alloc (.cells #[.int .i64 (z : Int), .int .i64 (k : Int)] 132)) w1 := Below.grown HE.out.2.1 hg1 (by simp; omega) (fun j hj => by cases hj; exact hsz)
                 have hcb : w1.heap[wz.heap.size + 1]? = some (.cells #[.int .i64 (z : Int), .int .i64 (k : Int)] 132) := (hg1.block _ (by simp) (by simp [Value.ownBlock])).trans HE.out.2.2.2.2.2.2.1)
              | (refine step_append_any _ (by rfl) _ _ _ (by rfl) (w.heap.size + 1) 132 i0 (.agg #[.int .i64 0, .int .i64 0]) 2 16 Tryz.underlying50 HIF.out.1 HIF.out.2.1 HIF.out.2.2.1 HIF.out.2.2.2 rfl (by decide) (.slice (some ⟨wz.heap.size + 1, 0, none⟩) 0 0) 0 [] (by rfl) HE.out.2.2.2.2.2.1 ⟨g, 0, none⟩ t c (bcells (L.take t)) (by rfl) HN.out.1 (HN.out.2.2.1 _ HE.out.2.2.1) (fun u hu => bcells_one u _ hu) (by unfold maxLen; omega) (by omega) (by simp; omega) ?_; intro v1 w1 hown1 hg1
                 have hX1 : Below (w.heap.size + 1) (w.alloc (.cells #[.int .i64 (z : Int), .int .i64 (k : Int)] 132)) w1 := Below.grown HE.out.2.2.1 hg1 (by simp; omega) (fun j hj => by cases hj; exact Nat.le_succ_of_le hsz)
                 have hcb : w1.heap[wz.heap.size]? = some (.cells #[.int .i64 (z : Int), .int .i64 (k : Int)] 132) := (hg1.block _ (by simp; omega) (by simp [Value.ownBlock])).trans HE.out.2.2.2.2.2.2.2)
              | (refine step_append_any _ (by rfl) _ _ _ (by rfl) (w.heap.size + 1) 132 i0 (.agg #[.int .i64 0, .int .i64 0]) 2 16 Tryz.underlying50 HIF.out.1 HIF.out.2.1 HIF.out.2.2.1 HIF.out.2.2.2 rfl (by decide) v1 (0 + t) ([] ++ bcells (L.take t)) (by rfl) (hown1.alloc (.cells #[.int .i64 (z : Int), .int .i64 (k : Int)] 132)) ⟨w1.heap.size, 0, none⟩ 1 1 [.int .i64 (z : Int), .int .i64 (k : Int)] (by rfl) rfl (pair_news (heap_alloc_new w1 (.cells #[.int .i64 (z : Int), .int .i64 (k : Int)] 132))) (by simp [Value.oneCell']) (by unfold maxLen; omega) (by omega) (by have := hX1.size; simp at this ⊢; omega) ?_; intro v2 w2 hown2 hg2
                 have hX2 : Below (w.heap.size + 1) (w.alloc (.cells #[.int .i64 (z : Int), .int .i64 (k : Int)] 132)) w2 := Below.grown (hX1.alloc (by have := hX1.size; simpa using this) (.cells #[.int .i64 (z : Int), .int .i64 (k : Int)] 132)) hg2 (by have := hX1.size; simp at this ⊢; omega) (own_block hown1))
              | (refine step_append_any _ (by rfl) _ _ _ (by rfl) (w.heap.size + 1) 132 i0 (.agg #[.int .i64 0, .int .i64 0]) 2 16 Tryz.underlying50 HIF.out.1 HIF.out.2.1 HIF.out.2.2.1 HIF.out.2.2.2 rfl (by decide) v1 (0 + t) ([] ++ bcells (L.take t)) (by rfl) hown1 ⟨_, 0, none⟩ 1 1 [.int .i64 (z : Int), .int .i64 (k : Int)] (by rfl) rfl (pair_news hcb) (by simp [Value.oneCell']) (by unfold maxLen; omega) (by omega) (by have := hX1.size; simpa using this) ?_; intro v2 w2 hown2 hg2
                 have hX2 : Below (w.heap.size + 1) (w.alloc (.cells #[.int .i64 (z : Int), .int .i64 (k : Int)] 132)) w2 := Below.grown hX1 hg2 (by have := hX1.size; simpa using this) (own_block hown1))
              | (refine step_append_any _ (by rfl) _ _ _ (by rfl) (w.heap.size + 1) 132 i0 (.agg #[.int .i64 0, .int .i64 0]) 2 16 Tryz.underlying50 HIF.out.1 HIF.out.2.1 HIF.out.2.2.1 HIF.out.2.2.2 rfl (by decide) v2 (0 + t + 1) (([] ++ bcells (L.take t)) ++ [.int .i64 (z : Int), .int .i64 (k : Int)]) (by rfl) hown2 ⟨g, 0, none⟩ (L.length - t) (c - t) (bcells (L.drop t)) (by show Value.slice (if c = t then some (⟨g, 0, none⟩ : Addr) else some ⟨g, t * 2, none⟩) (L.length - t) (c - t) = _; rw [if_pos HCE.out]) HN.out.2.1 (HN.out.2.2.2.1 _ hX2) (fun u hu => bcells_one u _ hu) (by unfold maxLen; omega) (by omega) (by have := hX2.size; simpa using this) ?_; intro v3 w3 hown3 hg3
                 have hX3 : Below (w.heap.size + 1) (w.alloc (.cells #[.int .i64 (z : Int), .int .i64 (k : Int)] 132)) w3 := Below.grown hX2 hg3 (by have := hX2.size; simpa using this) (own_block hown2)))
          all_goals
            have hsl := hid (put_slc HZ.out htl hown3)
            have hXw := HN.out.2.2.2.2.1 _ hX3
            clear hown1 hown2 hown3 hg1 hg2 hg3
            go_wp2_with fail
            go_ret
            exact ⟨_, t, rfl, hstop.out, hsl.out, hXw⟩
        · have HCE := hid hce
          clear hce
          go_wp2_with fail
          go_quiet (fail)
          go_wp2_with fail
          have hXz : Below (w.heap.size + 1) (w.alloc (.cells #[.int .i64 (z : Int), .int .i64 (k : Int)] 132)) (wr.drewN nq) := Below.drewN hX nq
          have b0z : (wr.drewN nq).cell? ⟨w.heap.size, 0, none⟩ = some (.int .i64 (z : Int)) := b0
          have b1z : (wr.drewN nq).cell? ⟨w.heap.size, 1, none⟩ = some (.int .i64 (k : Int)) := b1
          generalize wr.drewN nq = wz at *
          clear hbel hbx b0 b1 hX hd0 hcmp hcmp2 h1 h2 c0 c1 hle
          have hsz : w.heap.size + 1 ≤ wz.heap.size := by have := hXz.size; simpa using this
          have htl : t ≤ L.length := hstop.out.1
          have hi2 : (0 : Int) ≤ (t : Int) := by omega
          have hi3 : (t : Int) ≤ (c : Int) := by omega
          have hi6 : (t : Int) ≤ (L.length : Int) := by omega
          have hi7 : (L.length : Int) ≤ (c : Int) := by omega
          have hlow : ∀ wx, Below (w.heap.size + 1) (w.alloc (.cells #[.int .i64 (z : Int), .int .i64 (k : Int)] 132)) wx → Below w.heap.size w wx := fun wx hx => ((Below.refl w.heap.size w).alloc (Nat.le_refl _) _).trans (hx.mono (Nat.le_succ _))
          have hbox : ∀ wx, Below (w.heap.size + 1) (w.alloc (.cells #[.int .i64 (z : Int), .int .i64 (k : Int)] 132)) wx → wx.cell? ⟨w.heap.size, 0, none⟩ = some (.int .i64 (z : Int)) ∧ wx.cell? ⟨w.heap.size, 1, none⟩ = some (.int .i64 (k : Int)) := fun wx hx => by
            have hbk := (hx.block w.heap.size (Nat.lt_succ_self _)).trans (heap_alloc_new w _)
            exact ⟨by rw [cell_of_row _ _ _ _ _ _ hbk]; rfl, by rw [cell_of_row _ _ _ _ _ _ hbk]; rfl⟩
          have hB1 : Below (w.heap.size + 1) (w.alloc (.cells #[.int .i64 (z : Int), .int .i64 (k : Int)] 132)) (wz.drew.alloc (.cells #[] 132)) := hXz.drew.alloc hsz _
          have hB2 : Below (w.heap.size + 1) (w.alloc (.cells #[.int .i64 (z : Int), .int .i64 (k : Int)] 132)) ((wz.drew.alloc (.cells #[] 132)).alloc (.cells #[.int .i64 (z : Int), .int .i64 (k : Int)] 132)) := (hXz.drew.alloc hsz _).alloc (by simp; omega) _
          have hB3 : Below (w.heap.size + 1) (w.alloc (.cells #[.int .i64 (z : Int), .int .i64 (k : Int)] 132)) ((wz.drew.alloc (.cells #[.int .i64 (z : Int), .int .i64 (k : Int)] 132)).alloc (.cells #[] 132)) := (hXz.drew.alloc hsz _).alloc (by simp; omega) _
          have hO1 : (wz.drew.alloc (.cells #[] 132)).ownsRow (w.heap.size + 1) 132 2 (.slice (some ⟨wz.heap.size, 0, none⟩) 0 0) 0 [] := World.ownsRow_lit wz.drew #[] 0 hsz (by unfold maxLen; omega) rfl
          have hO3 : ((wz.drew.alloc (.cells #[.int .i64 (z : Int), .int .i64 (k : Int)] 132)).alloc (.cells #[] 132)).ownsRow (w.heap.size + 1) 132 2 (.slice (some ⟨wz.heap.size + 1, 0, none⟩) 0 0) 0 [] := by
            have h := World.ownsRow_lit (base := w.heap.size + 1) (e := 132) (size := 2) (wz.drew.alloc (.cells #[.int .i64 (z : Int), .int .i64 (k : Int)] 132)) #[] 0 (by simp; omega) (by unfold maxLen; omega) rfl
            simpa using h
          have hn1 : (bcells (L.take t)).length = t * 2 := by rw [bcells_length, List.length_take]; omega
          have hn3 : (bcells (L.drop t)).length = (L.length - t) * 2 := by rw [bcells_length, List.length_drop]
          have hN1 : ∀ wx, Below (w.heap.size + 1) (w.alloc (.cells #[.int .i64 (z : Int), .int .i64 (k : Int)] 132)) wx → ∀ j u, (bcells (L.take t))[j]? = some u → wx.cell? ((⟨g, 0, none⟩ : Addr).add j) = some u := fun wx hx => news_take (HR.out.below (hlow wx hx)) t
          have hN3 : ∀ wx, Below (w.heap.size + 1) (w.alloc (.cells #[.int .i64 (z : Int), .int .i64 (k : Int)] 132)) wx → ∀ j u, (bcells (L.drop t))[j]? = some u → wx.cell? ((⟨g, t * 2, none⟩ : Addr).add j) = some u := fun wx hx => news_drop (HR.out.below (hlow wx hx)) t htl
          have hC1 : ((wz.drew.alloc (.cells #[] 132)).alloc (.cells #[.int .i64 (z : Int), .int .i64 (k : Int)] 132)).heap[wz.heap.size + 1]? = some (.cells #[.int .i64 (z : Int), .int .i64 (k : Int)] 132) := by have := heap_alloc_new (wz.drew.alloc (.cells #[] 132)) (.cells #[.int .i64 (z : Int), .int .i64 (k : Int)] 132); simpa using this
          have hC3 : ((wz.drew.alloc (.cells #[.int .i64 (z : Int), .int .i64 (k : Int)] 132)).alloc (.cells #[] 132)).heap[wz.heap.size]? = some (.cells #[.int .i64 (z : Int), .int .i64 (k : Int)] 132) := heap_alloc2_old wz.drew _ _
          have HE := hid (And.intro hB1 (And.intro hB2 (And.intro hB3 (And.intro hO1 (And.intro (hO1.alloc (.cells #[.int .i64 (z : Int), .int .i64 (k : Int)] 132)) (And.intro hO3 (And.intro hC1 hC3)))))))
          have HN := hid (And.intro hn1 (And.intro hn3 (And.intro hN1 (And.intro hN3 (And.intro hlow hbox)))))
          clear hB1 hB2 hB3 hO1 hO3 hn1 hn3 hN1 hN3 hlow hbox hC1 hC3
          go_region_held3 (fun wx => wx.cell? ⟨w.heap.size, 0, none⟩ = some (.int .i64 (z : Int)) ∧ wx.cell? ⟨w.heap.size, 1, none⟩ = some (.int .i64 (k : Int))) (first | exact ⟨b0z, b1z⟩ | exact HN.out.2.2.2.2.2 _ hX3 | exact HN.out.2.2.2.2.2 _ hX2 | exact HN.out.2.2.2.2.2 _ (hX1.alloc (by have := hX1.size; simp at this ⊢; omega) _) | exact HN.out.2.2.2.2.2 _ hX1 | go_keep)
            (first
              | (refine step_append_any _ (by rfl) _ _ _ (by rfl) (w.heap.size + 1) 132 i0 (.agg #[.int .i64 0, .int .i64 0]) 2 16 Tryz.underlying50 HIF.out.1 HIF.out.2.1 HIF.out.2.2.1 HIF.out.2.2.2 rfl (by decide) (.slice (some ⟨wz.heap.size, 0, none⟩) 0 0) 0 [] (by rfl) HE.out.2.2.2.1 ⟨g, 0, none⟩ t c (bcells (L.take t)) (by rfl) HN.out.1 (HN.out.2.2.1 _ HE.out.1) (fun u hu => bcells_one u _ hu) (by unfold maxLen; omega) (by omega) (by simp; omega) ?_; intro v1 w1 hown1 hg1
                 have hX1 : Below (w.heap.size + 1) (w.alloc (.cells #[.int .i64 (z : Int), .int .i64 (k : Int)] 132)) w1 := Below.grown HE.out.1 hg1 (by simp; omega) (fun j hj => by cases hj; exact hsz))
              | (refine step_append_any _ (by rfl) _ _ _ (by rfl) (w.heap.size + 1) 132 i0 (.agg #[.int .i64 0, .int .i64 0]) 2 16 Tryz.underlying50 HIF.out.1 HIF.out.2.1 HIF.out.2.2.1 HIF.out.2.2.2 rfl (by decide) (.slice (some ⟨wz.heap.size, 0, none⟩) 0 0) 0 [] (by rfl) HE.out.2.2.2.2.1 ⟨g, 0, none⟩ t c (bcells (L.take t)) (by rfl) HN.out.1 (HN.out.2.2.1 _ HE.out.2.1) (fun u hu => bcells_one u _ hu) (by unfold maxLen; omega) (by omega) (by simp; omega) ?_; intro v1 w1 hown1 hg1
                 have hX1 : Below (w.heap.size + 1) (w.alloc (.cells #[.int .i64 (z : Int), .int .i64 (k : Int)] 132)) w1 := Below.grown HE.out.2.1 hg1 (by simp; omega) (fun j hj => by cases hj; exact hsz)
                 have hcb : w1.heap[wz.heap.size + 1]? = some (.cells #[.int .i64 (z : Int), .int .i64 (k : Int)] 132) := (hg1.block _ (by simp) (by simp [Value.ownBlock])).trans HE.out.2.2.2.2.2.2.1)
              | (refine step_append_any _ (by rfl) _ _ _ (by rfl) (w.heap.size + 1) 132 i0 (.agg #[.int .i64 0, .int .i64 0]) 2 16 Tryz.underlying50 HIF.out.1 HIF.out.2.1 HIF.out.2.2.1 HIF.out.2.2.2 rfl (by decide) (.slice (some ⟨wz.heap.size + 1, 0, none⟩) 0 0) 0 [] (by rfl) HE.out.2.2.2.2.2.1 ⟨g, 0, none⟩ t c (bcells (L.take t)) (by rfl) HN.out.1 (HN.out.2.2.1 _ HE.out.2.2.1) (fun u hu => bcells_one u _ hu) (by unfold maxLen; omega) (by omega) (by simp; omega) ?_; intro v1 w1 hown1 hg1
                 have hX1 : Below (w.heap.size + 1) (w.alloc (.cells #[.int .i64 (z : Int), .int .i64 (k : Int)] 132)) w1 := Below.grown HE.out.2.2.1 hg1 (by simp; omega) (fun j hj => by cases hj; exact Nat.le_succ_of_le hsz)
                 have hcb : w1.heap[wz.heap.size]? = some (.cells #[.int .i64 (z : Int), .int .i64 (k : Int)] 132) := (hg1.block _ (by simp; omega) (by simp [Value.ownBlock])).trans HE.out.2.2.2.2.2.2.2)
              | (refine step_append_any _ (by rfl) _ _ _ (by rfl) (w.heap.size + 1) 132 i0 (.agg #[.int .i64 0, .int .i64 0]) 2 16 Tryz.underlying50 HIF.out.1 HIF.out.2.1 HIF.out.2.2.1 HIF.out.2.2.2 rfl (by decide) v1 (0 + t) ([] ++ bcells (L.take t)) (by rfl) (hown1.alloc (.cells #[.int .i64 (z : Int), .int .i64 (k : Int)] 132)) ⟨w1.heap.size, 0, none⟩ 1 1 [.int .i64 (z : Int), .int .i64 (k : Int)] (by rfl) rfl (pair_news (heap_alloc_new w1 (.cells #[.int .i64 (z : Int), .int .i64 (k : Int)] 132))) (by simp [Value.oneCell']) (by unfold maxLen; omega) (by omega) (by have := hX1.size; simp at this ⊢; omega) ?_; intro v2 w2 hown2 hg2
                 have hX2 : Below (w.heap.size + 1) (w.alloc (.cells #[.int .i64 (z : Int), .int .i64 (k : Int)] 132)) w2 := Below.grown (hX1.alloc (by have := hX1.size; simpa using this) (.cells #[.int .i64 (z : Int), .int .i64 (k : Int)] 132)) hg2 (by have := hX1.size; simp at this ⊢; omega) (own_block hown1))
              | (refine step_append_any _ (by rfl) _ _ _ (by rfl) (w.heap.size + 1) 132 i0 (.agg #[.int .i64 0, .int .i64 0]) 2 16 Tryz.underlying50 HIF.out.1 HIF.out.2.1 HIF.out.2.2.1 HIF.out.2.2.2 rfl (by decide) v1 (0 + t) ([] ++ bcells (L.take t)) (by rfl) hown1 ⟨_, 0, none⟩ 1 1 [.int .i64 (z : Int), .int .i64 (k : Int)] (by rfl) rfl (pair_news hcb) (by simp [Value.oneCell']) (by unfold maxLen; omega) (by omega) (by have := hX1.size; simpa using this) ?_; intro v2 w2 hown2 hg2
                 have hX2 : Below (w.heap.size + 1) (w.alloc (.cells #[.int .i64 (z : Int), .int .i64 (k : Int)] 132)) w2 := Below.grown hX1 hg2 (by have := hX1.size; simpa using this) (own_block hown1))
              | (refine step_append_any _ (by rfl) _ _ _ (by rfl) (w.heap.size + 1) 132 i0 (.agg #[.int .i64 0, .int .i64 0]) 2 16 Tryz.underlying50 HIF.out.1 HIF.out.2.1 HIF.out.2.2.1 HIF.out.2.2.2 rfl (by decide) v2 (0 + t + 1) (([] ++ bcells (L.take t)) ++ [.int .i64 (z : Int), .int .i64 (k : Int)]) (by rfl) hown2 ⟨g, t * 2, none⟩ (L.length - t) (c - t) (bcells (L.drop t)) (by show Value.slice (if c = t then some (⟨g, 0, none⟩ : Addr) else some ⟨g, t * 2, none⟩) (L.length - t) (c - t) = _; rw [if_neg HCE.out]) HN.out.2.1 (HN.out.2.2.2.1 _ hX2) (fun u hu => bcells_one u _ hu) (by unfold maxLen; omega) (by omega) (by have := hX2.size; simpa using this) ?_; intro v3 w3 hown3 hg3
                 have hX3 : Below (w.heap.size + 1) (w.alloc (.cells #[.int .i64 (z : Int), .int .i64 (k : Int)] 132)) w3 := Below.grown hX2 hg3 (by have := hX2.size; simpa using this) (own_block hown2)))
          all_goals
            have hsl := hid (put_slc HZ.out htl hown3)
            have hXw := HN.out.2.2.2.2.1 _ hX3
            clear hown1 hown2 hown3 hg1 hg2 hg3
            go_wp2_with fail
            go_ret
            exact ⟨_, t, rfl, hstop.out, hsl.out, hXw⟩
end Go.Proofs.YtdmnemgooagehaaGreatDoor
