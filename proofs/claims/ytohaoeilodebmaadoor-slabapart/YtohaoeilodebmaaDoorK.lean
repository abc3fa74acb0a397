/- Contracts of Free and Used. -/
import Derived.Test.YtohaoeilodebmaaDoorI
import Derived.Test.YtohaoeilodebmaaDoorJ
import Derived.Sort.OwnSorted
namespace Go.Proofs.YtohaoeilodebmaaDoor
open Go.RowKit Go.Maps

theorem Tab.pos {w : World} (h : Tab w) : 1 < w.heap.size := block_lt_of_cell (h 0 (by omega))
theorem Tab.below {w w' : World} {Bd : Nat} (h : Tab w) (hb : Below Bd w w') (h0 : 1 < Bd) : Tab w' := fun j hj => (hb.cell (p := ⟨1, j, none⟩) h0).trans (h j hj)
theorem Tab.same {w w' : World} (h : Tab w) (e : w'.heap = w.heap) : Tab w' := fun j hj => by
  rw [World.cell?_of_block (w := w) (by rw [e])]; exact h j hj
theorem Tab.drewN {w : World} (h : Tab w) (k : Nat) : Tab (w.drewN k) := h.same rfl

theorem info44 : (Tryd.prog.info? 44).map (fun i => (i.zero, i.size, i.bytes)) = some (some (.agg #[.int .i64 0, .int .i64 0]), 2, 16) := by kernel_rfl
theorem own_block {w : World} {base : Nat} {v : Value} {k : Nat} {xs : List Value} (h : w.ownsRow base 44 2 v k xs) : ∀ r, v.ownBlock = some r → base ≤ r := by
  rcases h.2 with ⟨rfl, _⟩ | ⟨g, cap, cur, rfl, hb, _⟩
  · intro r hr; cases hr
  · intro r hr
    have : g = r := by simpa [Value.ownBlock] using hr
    omega

/-- What was collected so far: the free blocks of the orders below k, and of k those at places below f. -/
structure Coll (B : St) (k f : Nat) (L : List (Nat × Nat)) : Prop where
  nodup : L.Nodup
  mem : ∀ p o, (p, o) ∈ L ↔ ∃ i, p = i * 2 ^ o ∧ B o i = .free ∧ (o < k ∨ o = k ∧ i < f)
  len : L.length ≤ k * 1048576 + f
theorem Coll.start (B : St) : Coll B 0 0 [] := ⟨List.nodup_nil, fun p o => by simp, by simp⟩
theorem Coll.step {B : St} {k f i : Nat} {L : List (Nat × Nat)} (h : Coll B k f L) (hf : f ≤ i) (hb : B k i = .free) (hn : ∀ j, f ≤ j → j < i → B k j ≠ .free) : Coll B k (i + 1) (L ++ [(i * 2 ^ k, k)]) := by
  refine ⟨?_, fun p o => ?_, by have := h.len; simp; omega⟩
  · rw [List.nodup_append]
    refine ⟨h.nodup, by simp, fun a ha b hb' => ?_⟩
    rw [List.mem_singleton] at hb'
    subst hb'
    rintro rfl
    obtain ⟨j, e, hj, hc⟩ := (h.mem _ _).1 ha
    have : j = i := (Nat.eq_of_mul_eq_mul_right (Nat.two_pow_pos _) e).symm
    omega
  · rw [List.mem_append, h.mem, List.mem_singleton]
    constructor
    · rintro (⟨j, rfl, hj, hc⟩ | e)
      · exact ⟨j, rfl, hj, by omega⟩
      · obtain ⟨rfl, rfl⟩ : p = i * 2 ^ k ∧ o = k := by simpa using e
        exact ⟨i, rfl, hb, .inr ⟨rfl, by omega⟩⟩
    · rintro ⟨j, rfl, hj, hc⟩
      by_cases e : o = k ∧ j = i
      · obtain ⟨rfl, rfl⟩ := e; exact .inr rfl
      · refine .inl ⟨j, rfl, hj, ?_⟩
        rcases hc with hc | ⟨rfl, hc⟩
        · exact .inl hc
        · refine .inr ⟨rfl, ?_⟩
          apply Decidable.byContradiction
          intro hlt
          exact hn j (by omega) (by omega) hj
theorem len_next {l k f M : Nat} (h : l ≤ k * M + f) (hf : f ≤ M) : l ≤ (k + 1) * M + 0 := by
  rw [Nat.add_mul]; omega
theorem Coll.next {B : St} {k f : Nat} {L : List (Nat × Nat)} (h : Coll B k f L) (hf : f ≤ 1048576) (hn : ∀ j, f ≤ j → B k j ≠ .free) : Coll B (k + 1) 0 L := by
  refine ⟨h.nodup, fun p o => ?_, len_next h.len hf⟩
  rw [h.mem]
  constructor
  · rintro ⟨j, rfl, hj, hc⟩
    exact ⟨j, rfl, hj, .inl (by omega)⟩
  · rintro ⟨j, rfl, hj, hc⟩
    refine ⟨j, rfl, hj, ?_⟩
    by_cases e : o < k
    · exact .inl e
    · obtain rfl : o = k := by omega
      refine .inr ⟨rfl, ?_⟩
      apply Decidable.byContradiction
      intro hlt
      exact hn j (by omega) hj

/-- Whoever is among the used, or the free, by their pages. -/
theorem lst_of {K : Nat} {B : St} {x : Kind} {L L' : List (Nat × Nat)} (hi : Inv K B) (hx : x ≠ .no) (hn : L.Nodup) (hm : ∀ p o, (p, o) ∈ L ↔ ∃ i, p = i * 2 ^ o ∧ B o i = x) (hp : L'.Perm L) (hs : L'.Pairwise (fun a b => a.1 ≤ b.1)) : Lst B x L' := by
  have hm' : ∀ p o, (p, o) ∈ L' ↔ ∃ i, p = i * 2 ^ o ∧ B o i = x := fun p o => by rw [hp.mem_iff]; exact hm p o
  have hn' : L'.Nodup := hp.nodup_iff.2 hn
  refine ⟨?_, hm'⟩
  have hboth := List.Pairwise.and hs hn'
  refine hboth.imp_of_mem ?_
  rintro ⟨p, o⟩ ⟨q, o'⟩ ha hb ⟨h1, h2⟩
  apply Decidable.byContradiction
  intro h3
  have e : p = q := by simp at h1 h3; omega
  subst e
  obtain ⟨i, e1, b1⟩ := (hm' p o).1 ha
  obtain ⟨j, e2, b2⟩ := (hm' p o').1 hb
  obtain ⟨rfl, rfl⟩ := begins hi (by rw [b1]; exact hx) (by rw [b2]; exact hx) (e1.symm.trans e2)
  exact h2 rfl

def ListPost (B : St) (x : Kind) (w : World) (e : Ending) (w' : World) : Prop :=
  ∃ v L, e = .returned v ∧ Lst B x L ∧ L.length ≤ 100000000 ∧ w'.ownsRow w.heap.size 44 2 v L.length (bcells L) ∧ Below w.heap.size w w'

theorem free_nil (w : World) : Calls Tryd.prog 13 #[.pointer none] w fun e w' => e = .returned (.slice none 0 0) ∧ w' = w := by
  go_enter Tryd.func13, Tryd.ntmps13
  go_wp2
  go_ret
  exact ⟨rfl, rfl⟩
theorem used_nil (w : World) : Calls Tryd.prog 14 #[.pointer none] w fun e w' => e = .returned (.slice none 0 0) ∧ w' = w := by
  go_enter Tryd.func14, Tryd.ntmps14
  go_wp2
  go_ret
  exact ⟨rfl, rfl⟩
theorem left_nil (w : World) : Calls Tryd.prog 15 #[.pointer none] w fun e w' => e = .returned (.int .i64 0) ∧ w' = w := by
  go_enter Tryd.func15, Tryd.ntmps15
  go_wp2
  go_ret
  exact ⟨rfl, rfl⟩
theorem greatest_nil (w : World) : Calls Tryd.prog 16 #[.pointer none] w fun e w' => e = .returned (.int .i64 (-1)) ∧ w' = w := by
  go_enter Tryd.func16, Tryd.ntmps16
  go_wp2
  go_ret
  exact ⟨rfl, rfl⟩

theorem bcells_snoc (L : List (Nat × Nat)) (p k : Nat) : bcells (L ++ [(p, k)]) = bcells L ++ [.int .i64 ((p * 1024 : Nat) : Int), .int .i64 (k : Int)] := by simp [bcells, encB]

set_option maxHeartbeats 4000000 in
set_option maxRecDepth 100000 in
theorem free_any (w : World) (p m K : Nat) (bf gf : Nat → Nat) (B : St) (c : Nat) (hM : Mem w p m K bf gf B c) (hi : Inv K B) (hT : Tab w) :
    Calls Tryd.prog 13 #[.pointer (some ⟨p, 0, none⟩)] w (ListPost B .free w) := by
  have hK := hM.small
  have hl := hid hM.head
  have hpos := hT.pos
  have HM := hid hM
  have HI := hid hi
  have HT := hid hT
  obtain ⟨A, hA⟩ : ∃ A, ptrs (K + 1) bf = A := ⟨_, rfl⟩
  have HA := hid hA
  obtain ⟨i0, hi0, hz0, hz1, hz2⟩ := info_parts info44
  have HIF := hid (And.intro hi0 (And.intro hz0 (And.intro hz1 hz2)))
  clear hM hi hT hA hi0 hz0 hz1 hz2
  go_enter Tryd.func13, Tryd.ntmps13
  go_wp2_with (refine wpList_load56 rfl _ rfl p K (K + 1) bf m A rfl hl.out HA.out ?_)
  go_loopw [3, 13] (fun v i wr => ∃ k : Nat, k ≤ 21 ∧ i = .int .i64 k ∧ (∃ L, Hid (Coll B k 0 L ∧ wr.ownsRow w.heap.size 44 2 v L.length (bcells L))) ∧ Below w.heap.size w wr) (fun _ i _ => 21 - (intOf i).toNat)
  case atStart => exact ⟨0, by omega, rfl, ⟨[], Coll.start B, World.ownsRow_nil _ _ _ _⟩, Below.refl _ _⟩
  case round =>
    obtain ⟨k, hk, rfl, ⟨L, hL⟩, hX⟩ := hrel
    by_cases hlt : k < 21
    · have hx := fun wx => run_index56 (K + 1) bf k hlt wx
      rw [HA.out] at hx
      obtain ⟨pt, hpt⟩ : ∃ pt, pt = ptrOf (K + 1) bf k := ⟨_, rfl⟩
      rw [← hpt] at hx
      have hxr := hx wr
      have HPT := hid hpt
      clear hpt hx
      have hMr := hid (HM.out.below hX)
      have hTr := hid (HT.out.below hX hpos)
      go_wp2_with fail
      rw [HPT.out]
      refine (mem_first hMr.out HI.out hTr.out k 0 (.inr rfl) (by omega)).mono ?_
      rintro e w1 ⟨r, rfl, hr, rfl⟩
      rw [← HPT.out]
      have HR := hid hr
      clear hr
      go_wp2_with fail
      go_loopw [3, 6] (fun v t wq => ∃ (f : Nat) (r : Int), f ≤ 1048576 ∧ t = .int .i64 r ∧ Hid (FirstB B k f r ∧ (k ≤ K ∨ r = -1)) ∧ (∃ L, Hid (Coll B k f L ∧ wq.ownsRow w.heap.size 44 2 v L.length (bcells L))) ∧ Below w.heap.size w wq) (fun _ t _ => if intOf t < 0 then 0 else (1048577 - intOf t).toNat)
      case atStart =>
        refine ⟨0, r, by omega, rfl, ⟨HR.out, ?_⟩, ⟨L, hL.out⟩, hX⟩
        by_cases hkK : k ≤ K
        · exact .inl hkK
        · right
          rcases HR.out with ⟨h, _⟩ | ⟨i, _, _, hb, _⟩
          · exact h
          · have := (HI.out.inn k i (by rw [hb]; simp)).1; omega
      case round =>
        obtain ⟨f, r2, hf, rfl, hr, ⟨L2, hL2⟩, hX2⟩ := hrel
        clear HR hL hMr hTr hxr
        have hMq := hid (HM.out.below hX2)
        have hTq := hid (HT.out.below hX2 hpos)
        rcases hr.out.1 with ⟨rfl, hnone⟩ | ⟨i, rfl, hfi, hb, hbn⟩
        · have HC := hid (hL2.out.1.next hf hnone)
          clear hnone
          go_wp2_with fail
          exact ⟨⟨k + 1, by omega, by go_num, ⟨L2, HC.out, hL2.out.2⟩, hX2⟩, by simp [intOf]; omega⟩
        · have hkK : k ≤ K := by
            rcases hr.out.2 with h | h
            · exact h
            · omega
          have hib : i < 1048576 := Nat.lt_of_lt_of_le (HI.out.inn k i (by rw [hb]; simp)).2 (pow_le20 (by omega))
          have hal : i * 2 ^ k ≤ 1048576 := by
            have h1 := block_lt HI.out (k := k) (i := i) (by rw [hb]; simp)
            have := pow_le20 hK
            have := Nat.two_pow_pos k
            omega
          have HC := hid (hL2.out.1.step hfi hb hbn)
          have hlen2 := hL2.out.1.len
          clear hb hbn
          have hprod : (i : Int) * ((1024 * 2 ^ k : Nat) : Int) = ((i * 2 ^ k * 1024 : Nat) : Int) := by
            rw [← Int.natCast_mul]; congr 1; rw [Nat.mul_comm 1024, Nat.mul_assoc]
          obtain ⟨s, hs⟩ : ∃ s : Int, s = ((1024 * 2 ^ k : Nat) : Int) := ⟨_, rfl⟩
          rw [← hs] at hprod
          have HS := hid hs
          obtain ⟨z, hz⟩ : ∃ z, z = i * 2 ^ k := ⟨_, rfl⟩
          rw [← hz] at hprod HC hal
          have hsn := hid (bcells_snoc L2 z k)
          clear hs hz
          go_wp2_with fail
          refine (bytesOf_any k _ (by omega)).mono ?_
          rintro e w4 ⟨rfl, rfl⟩
          rw [← HS.out]
          go_wp2_with (first
            | (at_builtin; refine wpList_append_own _ rfl _ _ 32 rfl w.heap.size 44 i0 (.agg #[.int .i64 0, .int .i64 0]) 2 16 Tryd.underlying32 HIF.out.1 HIF.out.2.1 HIF.out.2.2.1 HIF.out.2.2.2 rfl (by decide) _ _ _ rfl (hL2.out.2.alloc _) ⟨w4.heap.size, 0, none⟩ 1 1 [.int .i64 ((z * 1024 : Nat) : Int), .int .i64 (k : Int)] rfl rfl ?c1 ?c2 ?c3 ?c4 ?c5 ?_)
            | fail)
          case c1 =>
            intro j u hj
            rw [addr_add, Nat.zero_add, cell_of_row _ _ _ _ _ _ (heap_alloc_new _ _), ← hj]
            match j, hj with
            | 0, _ => rfl
            | 1, _ => rfl
          case c2 =>
            intro u hu
            simp at hu
            rcases hu with rfl | rfl <;> rfl
          case c3 => unfold maxLen; omega
          case c4 => omega
          case c5 => have := hX2.size; simp; omega
          intro v' w5 hown' hgrow _
          have hX5 : Below w.heap.size w w5 := Below.grown (hX2.alloc hX2.size _) hgrow (by have := hX2.size; simp; omega) (own_block hL2.out.2)
          have HO : Hid (w5.ownsRow w.heap.size 44 2 v' (L2 ++ [(z, k)]).length (bcells (L2 ++ [(z, k)]))) := by
            rw [hsn.out, List.length_append]; exact hown'
          have hM5 := hid (HM.out.below hX5)
          have hT5 := hid (HT.out.below hX5 hpos)
          clear hown' hgrow hMq hTq hL2 hX2
          go_wp2_with fail
          rw [HPT.out, show (i : Int) + 1 = ((i + 1 : Nat) : Int) from by omega]
          refine (mem_first hM5.out HI.out hT5.out k (i + 1) (.inl hkK) (by omega)).mono ?_
          rintro e w6 ⟨r6, rfl, hr6, rfl⟩
          rw [← HPT.out]
          have HR6 := hid hr6
          have hmeas : (if r6 < 0 then 0 else (1048577 - r6).toNat) < (1048577 - (i : Int)).toNat := by
            rcases hr6 with ⟨h, _⟩ | ⟨i2, h, h2, _⟩
            · rw [if_pos (by omega)]; omega
            · rw [if_neg (by omega)]; omega
          clear hr6
          go_wp2_with fail
          refine ⟨⟨i + 1, r6, by omega, rfl, ⟨HR6.out, .inl hkK⟩, ⟨_, HC.out, HO.out⟩, hX5⟩, ?_⟩
          have hi0 : ¬ ((i : Int) < 0) := by omega
          simp only [intOf, hi0, if_false]
          exact hmeas
    · obtain rfl : k = 21 := by omega
      have hfin : Hid (L.Nodup ∧ (∀ p o, (p, o) ∈ L ↔ ∃ i, p = i * 2 ^ o ∧ B o i = .free) ∧ L.length ≤ 100000000) := by
        have hc := hL.out.1
        refine ⟨hc.nodup, fun q o => ?_, by have := hc.len; omega⟩
        rw [hc.mem]
        constructor
        · rintro ⟨i, rfl, hb, _⟩; exact ⟨i, rfl, hb⟩
        · rintro ⟨i, rfl, hb⟩
          have := (HI.out.inn o i (by rw [hb]; simp)).1
          exact ⟨i, rfl, hb, .inl (by omega)⟩
      go_wp2_with fail
      refine (sort_any w.heap.size _ L _ hL.out.2 hfin.out.2.2).mono ?_
      rintro e w3 ⟨rfl, L', hp, hs, hown, hg⟩
      have hlst := hid (lst_of HI.out (by simp) hfin.out.1 hfin.out.2.1 hp hs)
      have hlen := hp.length_eq
      have hX3 : Below w.heap.size w w3 := Below.grown hX hg hX.size (own_block hL.out.2)
      have HO := hid hown
      clear hown hg hp hs
      go_wp2_with fail
      go_ret
      exact ⟨_, L', rfl, hlst.out, by have := hfin.out.2.2; omega, by rw [hlen]; exact HO.out, hX3⟩

/-- What was collected so far: the used blocks that are no longer to come. -/
structure CollU (B : St) (left : Lit → Bool) (L : List (Nat × Nat)) : Prop where
  nodup : L.Nodup
  mem : ∀ p o, (p, o) ∈ L ↔ ∃ i, p = i * 2 ^ o ∧ B o i = .used ∧ left (.int .i64 (addr o i)) = false
theorem CollU.start {D : DataW Unit} {B : St} (h : Has D B) : CollU B (Maps.has D) [] := by
  refine ⟨List.nodup_nil, fun p o => ⟨fun h => (by cases h), ?_⟩⟩
  rintro ⟨i, rfl, hb, hl⟩
  have := (h.key _).2 ⟨o, i, hb, rfl⟩
  rw [hl] at this
  cases this
theorem CollU.step {K : Nat} {B : St} {left : Lit → Bool} {L : List (Nat × Nat)} (h : CollU B left L) (hi : Inv K B) {k i : Nat} (hb : B k i = .used) (hl : left (.int .i64 (addr k i)) = true) :
    CollU B (fun z => left z && !z.sameKey (.int .i64 (addr k i))) (L ++ [(i * 2 ^ k, k)]) := by
  refine ⟨?_, fun p o => ?_⟩
  · rw [List.nodup_append]
    refine ⟨h.nodup, by simp, fun a ha b hb' => ?_⟩
    rw [List.mem_singleton] at hb'
    subst hb'
    rintro rfl
    obtain ⟨j, e, hj, hc⟩ := (h.mem _ _).1 ha
    have : j = i := (Nat.eq_of_mul_eq_mul_right (Nat.two_pow_pos _) e).symm
    subst this
    rw [hl] at hc
    cases hc
  · rw [List.mem_append, h.mem, List.mem_singleton]
    constructor
    · rintro (⟨j, rfl, hj, hc⟩ | e)
      · exact ⟨j, rfl, hj, by rw [hc]; rfl⟩
      · obtain ⟨rfl, rfl⟩ : p = i * 2 ^ k ∧ o = k := by simpa using e
        exact ⟨i, rfl, hb, by simp [Lit.sameKey]⟩
    · rintro ⟨j, rfl, hj, hc⟩
      by_cases e : addr o j = addr k i
      · obtain ⟨rfl, rfl⟩ := addr_inj hi (by rw [hj]; simp) (by rw [hb]; simp) e
        exact .inr rfl
      · refine .inl ⟨j, rfl, hj, ?_⟩
        simpa [Lit.sameKey, e] using hc

set_option maxHeartbeats 4000000 in
set_option maxRecDepth 100000 in
theorem used_any (w : World) (p m K : Nat) (bf gf : Nat → Nat) (B : St) (c : Nat) (hM : Mem w p m K bf gf B c) (hi : Inv K B) (hc : c ≤ 1000000) :
    Calls Tryd.prog 14 #[.pointer (some ⟨p, 0, none⟩)] w (ListPost B .used w) := by
  obtain ⟨n, D, hnc, hU, hD⟩ := hM.used
  have hcm := hM.cmap
  have hp := hM.lp
  have hm := hM.lm
  have hK := hM.small
  have hsize := hU.size_le
  obtain ⟨i0, hi0, hz0, hz1, hz2⟩ := info_parts info44
  have HIF := hid (And.intro hi0 (And.intro hz0 (And.intro hz1 hz2)))
  have HI := hid hi
  have HU := hid hU
  have HD := hid hD
  have hhead := hid hM.head
  obtain ⟨sz, hsz⟩ : ∃ sz, sz = Maps.size D := ⟨_, rfl⟩
  rw [← hsz] at hsize
  have HSZ := hid hsz
  clear hM hi hU hD hi0 hz0 hz1 hz2 hsz
  go_enter Tryd.func14, Tryd.ntmps14
  go_wp2_with (first
    | (at_len; refine wpList_len_own _ rfl _ 62 rfl 3 3 Tryd.underlying62 _ m n D rfl HU.out ?_; rw [← HSZ.out])
    | (at_make; refine wpList_make_own _ rfl _ _ 32 rfl w.heap.size 44 i0 (.agg #[.int .i64 0, .int .i64 0]) 2 Tryd.underlying32 HIF.out.1 HIF.out.2.1 HIF.out.2.2.1 .i64 .i64 _ sz rfl rfl rfl (by rw [HIF.out.2.2.2]; omega) (by unfold maxLen; omega) (Nat.le_refl _) ?_; intro w0 hown0 hg0; have HO0 := hid hown0; have HG0 := hid hg0; clear hown0 hg0; have hcm0 : w0.cell? ⟨p, 22, none⟩ = some (.map (some m)) := (by rw [World.cell?_of_block (w := w) (HG0.out.block p hp (by simp))]; exact hcm))
    | (at_range; refine wpList_range_own _ rfl _ 62 rfl 3 3 law3 Tryd.underlying62 _ m n D rfl (HU.out.kept HG0.out (by simp)) ?_; intro w1 hrg1 hg1 hs1; have HR1 := hid hrg1; have HG1 := hid hg1; clear hrg1 hg1 hs1))
  go_frame
  have hX1 : Below w.heap.size w w1 := Below.grown (Below.grown (Below.refl _ _) HG0.out (Nat.le_refl _) (fun j hj => by cases hj)) HG1.out HG0.out.size (fun j hj => by cases hj)
  have hO1 := hid (HO0.out.kept HG1.out (by simp [Value.ownBlock]))
  obtain ⟨r, hr⟩ : ∃ r, r = w0.heap.size := ⟨_, rfl⟩
  rw [← hr] at HR1
  have hrb : w.heap.size ≤ r := by rw [hr]; exact HG0.out.size
  rw [← hr]
  clear HG0 HG1 HO0 hcm0 hr
  go_loopw [3, 4] (fun v _ wr => ∃ (left : Lit → Bool) (cnt : Nat) (L : List (Nat × Nat)), Hid (wr.ranges Tryd.prog 3 (plainElem (H := Unit) Tryd.prog 3) m r n D left cnt ∧ CollU B left L ∧ wr.ownsRow w.heap.size 44 2 v L.length (bcells L)) ∧ L.length + cnt ≤ sz ∧ Below w.heap.size w wr) (fun _ _ wr => wr.rangeLeft m r)
  case atStart => exact ⟨_, _, [], ⟨HR1.out, CollU.start HD.out, hO1.out⟩, by rw [HSZ.out]; simp, hX1⟩
  case round =>
    obtain ⟨left, cnt, L, hH, hlen, hX⟩ := hrel
    clear HR1 hO1 hX1
    go_wp2_with (first
      | (at_next; refine wpList_next_ranges_ii _ rfl _ rfl 3 3 .i64 .i64 law3 Tryd.underlying3 Tryd.underlying3 m r n _ _ _ rfl hH.out.1 ?_ ?_))
    · intro _ hl0
      have hfin : Hid (L.Nodup ∧ ∀ p o, (p, o) ∈ L ↔ ∃ i, p = i * 2 ^ o ∧ B o i = .used) := by
        have hcu := hH.out.2.1
        refine ⟨hcu.nodup, fun q o => ?_⟩
        rw [hcu.mem]
        constructor
        · rintro ⟨i, rfl, hb, _⟩; exact ⟨i, rfl, hb⟩
        · rintro ⟨i, rfl, hb⟩; exact ⟨i, rfl, hb, hl0 _⟩
      clear hl0
      go_wp2_with fail
      refine (sort_any w.heap.size _ L _ hH.out.2.2 (by omega)).mono ?_
      rintro e w3 ⟨rfl, L', hp', hs, hown, hg⟩
      have hlst := hid (lst_of HI.out (by simp) hfin.out.1 hfin.out.2 hp' hs)
      have hlen' := hp'.length_eq
      have hX3 : Below w.heap.size w w3 := Below.grown hX hg hX.size (own_block hH.out.2.2)
      have HO := hid hown
      clear hown hg hp' hs
      go_wp2_with fail
      go_ret
      exact ⟨_, L', rfl, hlst.out, by omega, by rw [hlen']; exact HO.out, hX3⟩
    · intro x v2 w2 cnt2 hwx hwv hlx hat hrg2 hlt hg2 hs2 hen
      obtain ⟨k, i, hb, rfl⟩ := (HD.out.key x).1 (has_true_of_atKey hat)
      obtain rfl : (k : Int) = v2 := by
        have h1 := HD.out.val k i hb (.lit (.int .i64 0))
        rw [hat] at h1
        simpa using h1.symm
      have HC := hid (hH.out.2.1.step HI.out hb hlx)
      have hal : i * 2 ^ k ≤ 1048576 := by
        have h1 := block_lt HI.out (k := k) (i := i) (by rw [hb]; simp)
        have := pow_le20 hK
        have := Nat.two_pow_pos k
        omega
      have hkb : k ≤ 20 := by have := (HI.out.inn k i (by rw [hb]; simp)).1; omega
      have HR2 := hid hrg2
      have hne := row_ne_iter hH.out.2.2 hH.out.1
      have hO2 := hid (hH.out.2.2.kept hg2 (.inr hne.symm))
      have hX2 : Below w.heap.size w w2 := Below.grown hX hg2 hX.size (fun j hj => by cases hj; exact hrb)
      have hmeas := hid (And.intro hH.out.1.left_eq hlt)
      have hsn := hid (bcells_snoc L (i * 2 ^ k) k)
      have hadr : addr k i = ((i * 2 ^ k * 1024 : Nat) : Int) := rfl
      rw [hadr] at hen HR2 HC
      clear hrg2 hg2 hs2 hat hwx hwv hlx hb hH hX hadr
      generalize i * 2 ^ k = z at *
      go_wp2_with (first
        | (at_builtin; refine wpList_append_own _ rfl _ _ 32 rfl w.heap.size 44 i0 (.agg #[.int .i64 0, .int .i64 0]) 2 16 Tryd.underlying32 HIF.out.1 HIF.out.2.1 HIF.out.2.2.1 HIF.out.2.2.2 rfl (by decide) _ _ _ rfl (hO2.out.alloc _) ⟨w2.heap.size, 0, none⟩ 1 1 [.int .i64 ((z * 1024 : Nat) : Int), .int .i64 (k : Int)] rfl rfl ?c1 ?c2 ?c3 ?c4 ?c5 ?_))
      case c1 =>
        intro j u hj
        rw [addr_add, Nat.zero_add, cell_of_row _ _ _ _ _ _ (heap_alloc_new _ _), ← hj]
        match j, hj with
        | 0, _ => rfl
        | 1, _ => rfl
      case c2 =>
        intro u hu
        simp at hu
        rcases hu with rfl | rfl <;> rfl
      case c3 => unfold maxLen; omega
      case c4 => omega
      case c5 => have := hX2.size; simp; omega
      intro v' w5 hown' hgrow _
      have hX5 : Below w.heap.size w w5 := Below.grown (hX2.alloc hX2.size _) hgrow (by have := hX2.size; simp; omega) (own_block hO2.out)
      have HO : Hid (w5.ownsRow w.heap.size 44 2 v' (L ++ [(z, k)]).length (bcells (L ++ [(z, k)]))) := by
        rw [hsn.out, List.length_append]; exact hown'
      have HR5 := hid ((HR2.out.alloc (.cells #[.int .i64 ((z * 1024 : Nat) : Int), .int .i64 (k : Int)] 44)).kept hgrow (fun e => by have := own_block hO2.out m e.symm; omega) (row_ne_iter hO2.out HR2.out))
      clear hown' hgrow
      go_wp2_with fail
      refine ⟨⟨_, cnt2, _, ⟨HR5.out, HC.out, HO.out⟩, by simp; omega, hX5⟩, ?_⟩
      rw [HR5.out.left_eq, hmeas.out.1]
      exact hmeas.out.2
end Go.Proofs.YtohaoeilodebmaaDoor
