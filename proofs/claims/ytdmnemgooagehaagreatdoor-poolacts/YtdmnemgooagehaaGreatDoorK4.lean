/- The document's cache in memory; what its Has and its Take answer. -/
import Derived.Test.YtdmnemgooagehaaGreatDoorK3
namespace Go.Proofs.YtdmnemgooagehaaGreatDoor
open Go.RowKit Go.Maps

/-- The document's cache at block c, over the allocator at block r; its rows' blocks are among Z, as all are that aren't there yet. -/
structure RefC (w : World) (c r : Nat) (Z : Nat → Prop) (sz m N : Nat) (U : Pls) (vS vU : Value) : Prop where
  head : w.heap[c]? = some (.cells #[.pointer (some ⟨r, 0, none⟩), .int .i64 (sz : Int), vS, vU] 40)
  rS : Irow w 0 vS (slabsOf U m N)
  rU : Irow w 0 vU (usedOf U sz m N)
  oS : ∀ x, vS.ownBlock = some x → Z x
  oU : ∀ x, vU.ownBlock = some x → Z x
  nS : vS.ownBlock ≠ some c
  nU : vU.ownBlock ≠ some c
  br : Z c
  new : ∀ x, w.heap.size ≤ x → Z x
section
variable {w w' : World} {c r sz m N : Nat} {Z : Nat → Prop} {U : Pls} {vS vU : Value}
theorem RefC.lc (h : RefC w c r Z sz m N U vS vU) : c < w.heap.size := (Array.getElem?_eq_some_iff.1 h.head).1
theorem RefC.c0 (h : RefC w c r Z sz m N U vS vU) : w.cell? ⟨c, 0, none⟩ = some (.pointer (some ⟨r, 0, none⟩)) := by rw [cell_of_row w c 0 _ _ _ h.head]; rfl
theorem RefC.c1 (h : RefC w c r Z sz m N U vS vU) : w.cell? ⟨c, 1, none⟩ = some (.int .i64 (sz : Int)) := by rw [cell_of_row w c 1 _ _ _ h.head]; rfl
theorem RefC.c2 (h : RefC w c r Z sz m N U vS vU) : w.cell? ⟨c, 2, none⟩ = some vS := by rw [cell_of_row w c 2 _ _ _ h.head]; rfl
theorem RefC.c3 (h : RefC w c r Z sz m N U vS vU) : w.cell? ⟨c, 3, none⟩ = some vU := by rw [cell_of_row w c 3 _ _ _ h.head]; rfl
theorem RefC.fz (h : RefC w c r Z sz m N U vS vU) (o : Nat) : w.frozen? ⟨c, o, none⟩ = false := by simp [World.frozen?, h.head]
theorem RefC.other (h : RefC w c r Z sz m N U vS vU) (hs : w.heap.size ≤ w'.heap.size) (ho : ∀ x, x < w.heap.size → Z x → w'.heap[x]? = w.heap[x]?) : RefC w' c r Z sz m N U vS vU :=
  ⟨(ho c h.lc h.br).trans h.head, h.rS.keep (fun x hx => ho x (h.rS.lt x hx).2 (h.oS x hx)), h.rU.keep (fun x hx => ho x (h.rU.lt x hx).2 (h.oU x hx)), h.oS, h.oU, h.nS, h.nU, h.br, fun x hx => h.new x (Nat.le_trans hs hx)⟩
theorem RefC.below (h : RefC w c r Z sz m N U vS vU) (hb : Below w.heap.size w w') : RefC w' c r Z sz m N U vS vU := h.other hb.size fun x hx _ => hb.block x hx
theorem RefC.turn {S : Nat → Prop} (h : RefC w c r Z sz m N U vS vU) (ht : Turn S w w') (hS : ∀ x, S x → ¬ Z x) : RefC w' c r Z sz m N U vS vU :=
  h.other ht.size fun x hx hb => ht.block x hx fun hs => hS x hs hb
theorem RefC.re {Z' : Nat → Prop} (h : RefC w c r Z sz m N U vS vU) (hZ : ∀ x, x < w.heap.size → Z x → Z' x) (hn : ∀ x, w.heap.size ≤ x → Z' x) : RefC w c r Z' sz m N U vS vU :=
  ⟨h.head, h.rS, h.rU, fun x hx => hZ x (h.rS.lt x hx).2 (h.oS x hx), fun x hx => hZ x (h.rU.lt x hx).2 (h.oU x hx), h.nS, h.nU, hZ c h.lc h.br, hn⟩
/-- The row of used places turned into a new one. -/
theorem RefC.setU_ {U' : Pls} {v : Value} {L : List Nat} (h : RefC w c r Z sz m N U vS vU) (hb : Below w.heap.size w w') (hv : Irow w' w.heap.size v L) (hL : L = usedOf U' sz m N) (hS : slabsOf U' m N = slabsOf U m N) : RefC (w'.setCell ⟨c, 3, none⟩ v) c r Z sz m N U' vS v := by
  subst hL
  have hh := (hb.block c h.lc).trans h.head
  have hl := h.lc
  have hbs := hb.size
  have hoth : ∀ x, x ≠ c → (w'.setCell ⟨c, 3, none⟩ v).heap[x]? = w'.heap[x]? := fun x hx => Below.heap_setCell _ _ _ _ hx
  have hne : ∀ x, v.ownBlock = some x → x ≠ c := fun x hx e => by have := (hv.lt x hx).1; omega
  refine ⟨by rw [setCell_head hh]; rfl, ?_, row_base (hv.keep (fun x hx => hoth x (hne x hx))) (Nat.zero_le _), h.oS, fun x hx => h.new x (hv.lt x hx).1, h.nS, fun e => hne c e rfl, h.br, fun x hx => h.new x (by simp at hx; omega)⟩
  rw [hS]
  exact (h.rS.below hb).keep (fun x hx => hoth x (fun e => h.nS (e ▸ hx)))
/-- .. and the row of slabs, ahead of that of places. -/
theorem RefC.setS_ {v : Value} (h : RefC w c r Z sz m N U vS vU) (hb : Below w.heap.size w w') {L : List Nat} (hv : Irow w' w.heap.size v L) : ∃ w2, w2 = w'.setCell ⟨c, 2, none⟩ v ∧ w2.heap[c]? = some (.cells #[.pointer (some ⟨r, 0, none⟩), .int .i64 (sz : Int), v, vU] 40) ∧ Irow w2 0 v L ∧ Irow w2 0 vU (usedOf U sz m N) ∧ (∀ x, v.ownBlock = some x → Z x ∧ x ≠ c) ∧ w2.heap.size = w'.heap.size := by
  have hh := (hb.block c h.lc).trans h.head
  have hl := h.lc
  have hbs := hb.size
  have hoth : ∀ x, x ≠ c → (w'.setCell ⟨c, 2, none⟩ v).heap[x]? = w'.heap[x]? := fun x hx => Below.heap_setCell _ _ _ _ hx
  have hne : ∀ x, v.ownBlock = some x → x ≠ c := fun x hx e => by have := (hv.lt x hx).1; omega
  refine ⟨_, rfl, by rw [setCell_head hh]; rfl, row_base (hv.keep (fun x hx => hoth x (hne x hx))) (Nat.zero_le _), (h.rU.below hb).keep (fun x hx => hoth x (fun e => h.nU (e ▸ hx))), fun x hx => ⟨h.new x (hv.lt x hx).1, hne x hx⟩, by simp⟩
theorem RefC.both {w2 w3 : World} {c r sz m N : Nat} {Z : Nat → Prop} {U' : Pls} {vS vU v3 : Value} {Ls Lu : List Nat} (hh : w2.heap[c]? = some (.cells #[.pointer (some ⟨r, 0, none⟩), .int .i64 (sz : Int), vS, vU] 40)) (hs : Irow w2 0 vS Ls) (ho : ∀ x, vS.ownBlock = some x → Z x ∧ x ≠ c) (hb : Below w2.heap.size w2 w3) (hv : Irow w3 w2.heap.size v3 Lu) (hn : ∀ x, w2.heap.size ≤ x → Z x) (hc : Z c) (eS : Ls = slabsOf U' m N) (eU : Lu = usedOf U' sz m N) :
    RefC (w3.setCell ⟨c, 3, none⟩ v3) c r Z sz m N U' vS v3 := by
  subst eS eU
  have hl : c < w2.heap.size := (Array.getElem?_eq_some_iff.1 hh).1
  have hh3 := (hb.block c hl).trans hh
  have hbs := hb.size
  have hoth : ∀ x, x ≠ c → (w3.setCell ⟨c, 3, none⟩ v3).heap[x]? = w3.heap[x]? := fun x hx => Below.heap_setCell _ _ _ _ hx
  have hne : ∀ x, v3.ownBlock = some x → x ≠ c := fun x hx e => by have := (hv.lt x hx).1; omega
  exact ⟨by rw [setCell_head hh3]; rfl, (hs.below hb).keep (fun x hx => hoth x (ho x hx).2), row_base (hv.keep (fun x hx => hoth x (hne x hx))) (Nat.zero_le _), fun x hx => (ho x hx).1, fun x hx => hn x (hv.lt x hx).1, fun e => (ho c e).2 rfl, fun e => hne c e rfl, hc, fun x hx => hn x (by simp at hx; omega)⟩
theorem rhas_any (h : RefC w c r Z sz m N U vS vU) (x : Int) (hl : (usedOf U sz m N).length ≤ 1000000) : Calls Tryz.prog 22 #[.pointer (some ⟨c, 0, none⟩), .int .i64 x] w (HasN (usedOf U sz m N) x w) := by
  have c3 := h.c3
  have HH := hid (ihas_any w 0 vU _ x h.rU hl)
  clear h
  go_enter Tryz.func22, Tryz.ntmps22
  go_wp2_with fail
  refine HH.out.mono ?_
  rintro e wx ⟨f, rfl, hf, rfl⟩
  go_wp2_with fail
  go_ret
  exact ⟨f, rfl, hf, rfl⟩
end
theorem ones_few (f : Nat → Bool) (k : Nat) : (ones f k).length ≤ k := by rw [ones_len]; exact cnt_le _ _
theorem usedOf_few {U : Pls} {sz m N : Nat} (hm : m ≤ 60) (hN : N ≤ 16384) : (usedOf U sz m N).length ≤ 1000000 := by
  unfold usedOf
  have h1 := pagesOf_len U m N
  have h2 : ∀ l : List Nat, (l.flatMap fun p => (ones (U p) m).map (place sz p)).length ≤ l.length * 60 := fun l => by
    induction l with
    | nil => simp
    | cons p l ih =>
      rw [List.flatMap_cons, List.length_append, List.length_map, List.length_cons]
      have := ones_few (U p) m
      omega
  have := h2 (pagesOf U m N)
  omega
theorem slabsOf_few {U : Pls} {m N : Nat} (hN : N ≤ 16384) : (slabsOf U m N).length ≤ 1000000 := by
  unfold slabsOf
  rw [List.length_map]
  have := pagesOf_len U m N
  omega

def RCTook (w : World) (c r : Nat) (Zr Zc : Nat → Prop) (K sz m : Nat) (B : St) (U : Pls) (e : Ending) (w' : World) : Prop :=
  ∃ (B' : St) (U' : Pls) (vF vB : Value) (F Ub : List (Nat × Nat)) (vS vU : Value), Turn (fun x => x = c ∨ x = r) w w' ∧ Inv K B' ∧ NoHeld B' ∧ RefM w' r Zr K B' vF vB F Ub ∧ RefC w' c r Zc sz m (2 ^ K) U' vS vU ∧
    ((e = .returned (.tuple #[.int .i64 0, .int .i64 4]) ∧ (∀ q, ¬ Opened U m q) ∧ (∀ k j, B k j ≠ .free) ∧ B' = B ∧ U' = U) ∨
     ∃ q i, e = .returned (.tuple #[.int .i64 ((place sz q i : Nat) : Int), .int .i64 0]) ∧ Taken U U' m q i ∧ Came B B' U m q ∧ q < 2 ^ K)
set_option maxRecDepth 100000 in
set_option maxHeartbeats 2000000 in
theorem rctake_any (w : World) (c r : Nat) (Zr Zc : Nat → Prop) (K sz m : Nat) (B : St) (U : Pls) (vF vB : Value) (F Ub : List (Nat × Nat)) (vS vU : Value) (hM : RefM w r Zr K B vF vB F Ub) (hi : Inv K B) (hn : NoHeld B) (hC : RefC w c r Zc sz m (2 ^ K) U vS vU) (hF : Fit B U m (2 ^ K)) (hz : Sz sz m K) (hK : K ≤ 14)
    (hrc : ¬ Zr c) (hcr : ¬ Zc r) : Calls Tryz.prog 18 #[.pointer (some ⟨c, 0, none⟩)] w (RCTook w c r Zr Zc K sz m B U) := by
  obtain ⟨a1, cap1, rfl⟩ := hC.rS.open
  obtain ⟨a2, cap2, rfl⟩ := hC.rU.open
  have hN16 : 2 ^ K ≤ 16384 := by
    have := Nat.pow_le_pow_right (n := 2) (by decide) hK
    have e : (2 : Nat) ^ 14 = 16384 := by decide
    omega
  have hlS := slabsOf_few (U := U) (m := m) hN16
  have hlU := usedOf_few (U := U) (sz := sz) hz.few hN16
  have hm60 := hz.few
  have hsz1 := hz.lo
  have hsz2 := hz.hi
  obtain ⟨S, hS⟩ : ∃ S, S = slabsOf U m (2 ^ K) := ⟨_, rfl⟩
  obtain ⟨sl, hsl⟩ : ∃ sl, sl = S.length := ⟨_, rfl⟩
  have HH := hid (And.intro hM (And.intro hi (And.intro hn (And.intro hC (And.intro hF (And.intro hz (And.intro hS (And.intro hsl (And.intro hrc hcr)))))))))
  have hcS := hC.c2
  rw [← hS, ← hsl] at hcS
  have hlS' : sl ≤ 1000000 := by rw [hsl, hS]; exact hlS
  have HN16 := hid hN16
  have HLS := hid hlS
  have HLU := hid hlU
  have hc0 := hC.c0
  have hc1 := hC.c1
  have hc3 := hC.c3
  obtain ⟨ul, hul⟩ : ∃ ul, ul = (usedOf U sz m (2 ^ K)).length := ⟨_, rfl⟩
  rw [← hul] at hc3
  have HUL := hid hul
  have HMC := hid (fun wx => rmany_any wx sz (by omega) (by omega) m hz.m)
  clear hM hi hn hC hF hz hS hsl hrc hcr hlS hlU hN16 hK hul
  have HC := hid (And.intro hc0 (And.intro hc1 (And.intro hcS hc3)))
  clear hc0 hc1 hcS hc3
  have hlc : c < w.heap.size := HH.out.2.2.2.1.lc
  go_enter Tryz.func18, Tryz.ntmps18
  go_wp2_with fail
  go_loopw [4] (fun t wr => ∃ j : Nat, t = .int .i64 (j : Int) ∧ j ≤ sl ∧ Hid (FullTo U m (2 ^ K) j ∧ Below w.heap.size w wr)) (fun t _ => sl - (intOf t).toNat)
  case atStart => exact ⟨0, rfl, Nat.zero_le _, fun a p ha => absurd ha (by omega), Below.refl _ _⟩
  case round =>
    obtain ⟨j, rfl, hj, HX⟩ := hrel
    have d0 := (HX.out.2.cell (p := ⟨c, 0, none⟩) hlc).trans HC.out.1
    have d1 := (HX.out.2.cell (p := ⟨c, 1, none⟩) hlc).trans HC.out.2.1
    have d2 := (HX.out.2.cell (p := ⟨c, 2, none⟩) hlc).trans HC.out.2.2.1
    have d3 := (HX.out.2.cell (p := ⟨c, 3, none⟩) hlc).trans HC.out.2.2.2
    by_cases hjs : j = sl
    · subst hjs
      have HNO := hid (fun q => take_none (U := U) (m := m) (n := 2 ^ K) (fun p hp => (HH.out.2.2.2.2.1.page p hp).2) (by have h := HX.out.1; rw [HH.out.2.2.2.2.2.2.2.1, HH.out.2.2.2.2.2.2.1] at h; exact h) q)
      have HT := hid (rtook_any wr r Zr K B vF vB F Ub 0 (HH.out.1.below HX.out.2) HH.out.2.1 HH.out.2.2.1)
      go_wp2_with fail
      refine HT.out.mono ?_
      rintro e w3 ⟨at_, er, B', vF', vB', F', Ub', rfl, ht, hi', hn', hM', ⟨rfl, rfl, ⟨rfl, hbad⟩ | ⟨rfl, o, ho, hoK, hnf⟩⟩ | ⟨rfl, o, k, i, n, ho, hoK, hle, hat, han, hnu, hpl⟩⟩
      · exact absurd hbad (by omega)
      · have hC3 := (HH.out.2.2.2.1.below HX.out.2).turn ht (fun x hx hz => HH.out.2.2.2.2.2.2.2.2.2 (hx ▸ hz))
        have H3 := hid (And.intro ((Turn.of_below HX.out.2 : Turn (fun x => x = c ∨ x = r) w wr).trans (ht.wide (fun x hx => .inr hx))) (And.intro hi' (And.intro hn' (And.intro hM' (And.intro hC3 (fun k j => hnf k j (by omega)))))))
        clear ht hi' hn' hM' hC3 hnf
        go_wp2_with fail
        go_ret2
        exact ⟨_, U, _, _, _, _, _, _, H3.out.1, H3.out.2.1, H3.out.2.2.1, H3.out.2.2.2.1, H3.out.2.2.2.2.1, .inl ⟨rfl, HNO.out, H3.out.2.2.2.2.2, rfl, rfl⟩⟩
      · obtain rfl : o = 0 := by omega
        have hC3 := (HH.out.2.2.2.1.below HX.out.2).turn ht (fun x hx hz => HH.out.2.2.2.2.2.2.2.2.2 (hx ▸ hz))
        have hatn : at_ = ((n * 1024 : Nat) : Int) := by rw [hat, ← han]; unfold addr; simp
        have hnK : n < 2 ^ K := by
          have := (hi'.inn 0 n (by rw [(hpl 0 n).2 (.inr ⟨rfl, rfl⟩)]; simp)).2
          simpa using this
        have hns : ¬ Slb U m n := HH.out.2.2.2.2.1.new hnu
        have HT3 := hid ((Turn.of_below HX.out.2 : Turn (fun x => x = c ∨ x = r) w wr).trans (ht.wide (fun x hx => .inr hx)))
        have HC3 := hid hC3
        have HB3 := hid (And.intro hi' (And.intro hn' (And.intro hM' (And.intro hnu (And.intro hpl (And.intro (⟨k, i, hle, by rw [← hat, hatn]; rfl⟩ : ∃ k j, Least B 0 k j ∧ pag n = addr k j) (And.intro hns hnK)))))))
        have hn16 : n < 16384 := by have := HN16.out; omega
        have HP1 := hid (show Calls Tryz.prog 83 #[.slice a1 j cap1, .int .i64 at_] w3 (PutN (slabsOf U m (2 ^ K)) (n * 1024) w3) from by
          have h := iput_any w3 0 _ _ (n * 1024) hC3.rS HLS.out (by omega)
          rw [← hatn] at h
          rw [HH.out.2.2.2.2.2.2.2.1, HH.out.2.2.2.2.2.2.1]
          exact h)
        have f0 := hC3.c0
        have f2 := hC3.c2
        have f3 := hC3.c3
        rw [← HH.out.2.2.2.2.2.2.1, ← HH.out.2.2.2.2.2.2.2.1] at f2
        rw [← HUL.out] at f3
        have HAT := hid hatn
        have hat31 : 0 ≤ at_ ∧ at_ < 2147483648 := by rw [HAT.out]; omega
        clear hatn
        clear ht hi' hn' hM' hC3 hle hat han hnu hpl hns hnK hoK d0 d1 d2 d3 ho
        go_wp2_with fail
        refine HP1.out.mono ?_
        rintro e w4 ⟨a4, cap4, t4, rfl, hst4, hI4, hb4⟩
        have hfz4 : w4.frozen? ⟨c, 2, none⟩ = false := by have h := (hb4.block c HC3.out.lc).trans HC3.out.head; simp [World.frozen?, h]
        have hce4 : ∃ z, w4.cell? ⟨c, 2, none⟩ = some z := ⟨_, (hb4.cell (p := ⟨c, 2, none⟩) HC3.out.lc).trans HC3.out.c2⟩
        obtain ⟨z4, hz4⟩ := hce4
        obtain ⟨w5, hw5, hh5, hs5, hu5, ho5, hsz5⟩ := HC3.out.setS_ hb4 hI4.out
        have g3 : (w4.setCell ⟨c, 2, none⟩ (.slice a4 ((slabsOf U m (2 ^ K)).length + 1) cap4)).cell? ⟨c, 3, none⟩ = some (.slice a2 ul cap2) := by
          rw [← hw5, cell_of_row _ _ _ _ _ _ hh5, HUL.out]; rfl
        have HP2 := hid (show Calls Tryz.prog 83 #[.slice a2 ul cap2, .int .i64 (at_ + 64)] w5 (PutN (usedOf U sz m (2 ^ K)) (n * 1024 + 64) w5) from by
          have h := iput_any w5 0 _ _ (n * 1024 + 64) hu5 HLU.out (by omega)
          rw [show ((n * 1024 + 64 : Nat) : Int) = at_ + 64 by rw [HAT.out]; omega] at h
          rw [HUL.out]
          exact h)
        have H5 := hid (And.intro hh5 (And.intro hs5 (And.intro hu5 (And.intro ho5 (And.intro hsz5 (And.intro hst4 hb4))))))
        rw [hw5] at HP2
        clear hh5 hs5 hu5 ho5 hsz5 hst4 hb4 hI4
        go_wp2_with fail
        refine HP2.out.mono ?_
        rw [← hw5]
        rintro e w6 ⟨a6, cap6, t6, rfl, hst6, hI6, hb6⟩
        have hlc5 : c < w5.heap.size := (Array.getElem?_eq_some_iff.1 H5.out.1).1
        have hh6 := (hb6.block c hlc5).trans H5.out.1
        have hfz6 : w6.frozen? ⟨c, 3, none⟩ = false := by simp [World.frozen?, hh6]
        have hz6 : w6.cell? ⟨c, 3, none⟩ = some (.slice a2 ul cap2) := by rw [cell_of_row _ _ _ _ _ _ hh6, HUL.out]; rfl
        have H6 := hid (And.intro hst6 (And.intro hI6 hb6))
        clear hst6 hI6 hb6 g3 hfz4 hz4 hh6
        go_wp2_with fail
        go_ret2
        obtain ⟨hi', hn', hM', hnu, hpl, hle, hns, hnK⟩ := HB3.out
        have hz := HH.out.2.2.2.2.2.1
        have epl : place sz n 0 = n * 1024 + 64 := by unfold place; omega
        have eS : insAt (slabsOf U m (2 ^ K)) (n * 1024) t4 = slabsOf (setU U n 0 true) m (2 ^ K) := ins_is (slabsOf_up _ _ _) (slabsOf_up _ _ _) (stop_put H5.out.2.2.2.2.2.1.out (slabsOf_up _ _ _) (fun h => by
          obtain ⟨p, _, hs, e⟩ := slabsOf_mem.1 h
          have : n = p := by omega
          subst this
          exact hns hs)) (slabs_on hz.one hnK)
        have eU : insAt (usedOf U sz m (2 ^ K)) (n * 1024 + 64) t6 = usedOf (setU U n 0 true) sz m (2 ^ K) := ins_is (usedOf_up hz.pos hz.page) (usedOf_up hz.pos hz.page) (stop_put H6.out.1.out (usedOf_up hz.pos hz.page) (fun h => by
          rw [← epl] at h
          exact hns ⟨0, hz.one, (used_is hz.pos hz.page hnK hz.one).1 h⟩)) (fun y => by rw [← epl]; exact used_on hz.one hnK y)
        have hs4 := H5.out.2.2.2.2.2.2.size
        have hC7 := RefC.both (U' := setU U n 0 true) (m := m) (N := 2 ^ K) H5.out.1 H5.out.2.1 H5.out.2.2.2.1 H6.out.2.2 H6.out.2.1.out (fun x hx => HC3.out.new x (by have := H5.out.2.2.2.2.1; omega)) HC3.out.br eS eU
        have t1 : Turn (fun x => x = c) w3 w4 := Turn.of_below H5.out.2.2.2.2.2.2
        have t2 := t1.but (But.setCell (p := ⟨c, 2, none⟩) (But.refl c w4) (.inl rfl) (.slice a4 ((slabsOf U m (2 ^ K)).length + 1) cap4)) (.inl rfl)
        rw [show w4.setCell ⟨c, 2, none⟩ (.slice a4 ((slabsOf U m (2 ^ K)).length + 1) cap4) = w5 from hw5.symm] at t2
        have t4 := (t2.trans (Turn.of_below H6.out.2.2)).but (But.setCell (p := ⟨c, 3, none⟩) (But.refl c w6) (.inl rfl) (.slice a6 ((usedOf U sz m (2 ^ K)).length + 1) cap6)) (.inl rfl)
        refine ⟨B', setU U n 0 true, _, _, _, _, _, _, HT3.out.trans (t4.wide (fun x hx => .inl hx)), hi', hn', hM'.turn t4 (fun x hx hzr => HH.out.2.2.2.2.2.2.2.2.1 (hx ▸ hzr)), hC7, .inr ⟨n, 0, ?_, ⟨hz.one, ?_, fun j hj => absurd hj (Nat.not_lt_zero _), rfl, .inr ⟨HNO.out, hns⟩⟩, .inr ⟨hns, HNO.out, hnu, hpl, hle⟩, hnK⟩⟩
        · show Ending.returned (.tuple #[.int .i64 (at_ + 64), .int .i64 0]) = _
          rw [show at_ + 64 = ((place sz n 0 : Nat) : Int) from by rw [HAT.out, epl]; omega]
        · cases e : U n 0 with
          | false => rfl
          | true => exact absurd ⟨0, hz.one, e⟩ hns
    · have hjl : j < sl := by omega
      obtain ⟨x0, hx0⟩ : ∃ x0, (slabsOf U m (2 ^ K))[j]? = some x0 := ⟨_, List.getElem?_eq_getElem (by rw [← HH.out.2.2.2.2.2.2.1, ← HH.out.2.2.2.2.2.2.2.1]; omega)⟩
      obtain ⟨p, rfl, hpK, hps⟩ := slab_at hx0
      obtain ⟨g, rfl, hcs⟩ := HH.out.2.2.2.1.rS.at hx0
      have hgl := (HH.out.2.2.2.1.rS.lt g rfl).2
      obtain ⟨s1, hs1⟩ : ∃ s1, s1 = p * 1024 := ⟨_, rfl⟩
      rw [← hs1] at hcs
      have hs1b : s1 < 16777216 := by have := HN16.out; omega
      have HP := hid (And.intro hx0 (And.intro hpK (And.intro hps hs1)))
      have hjI : (j : Int) < (sl : Int) := by omega
      clear hx0 hpK hps hs1
      go_wp2_with fail
      go_loopw [5] (fun t wq => ∃ k : Nat, t = .int .i64 (k : Int) ∧ k ≤ m ∧ Hid ((∀ k', k' < k → U p k' = true) ∧ Below w.heap.size w wq)) (fun t _ => m - (intOf t).toNat)
      case atStart => exact ⟨0, rfl, Nat.zero_le _, fun k' hk' => absurd hk' (by omega), HX.out.2⟩
      case round =>
        obtain ⟨k, rfl, hk, HY⟩ := hrel
        clear d0 d1 d2 d3
        have e1 := (HY.out.2.cell (p := ⟨c, 1, none⟩) hlc).trans HC.out.2.1
        have e2 := (HY.out.2.cell (p := ⟨c, 2, none⟩) hlc).trans HC.out.2.2.1
        have e3 := (HY.out.2.cell (p := ⟨c, 3, none⟩) hlc).trans HC.out.2.2.2
        have es := (HY.out.2.cell (p := ⟨g, j, none⟩) hgl).trans hcs
        by_cases hkm : k = m
        · subst hkm
          go_wp2_with (go_at_call 26; refine (HMC.out _).mono ?_; rintro e wx ⟨rfl, ex⟩; rw [ex]; clear ex wx)
          refine ⟨⟨j + 1, by go_num, by omega, hid ⟨fun a q ha hq i hi => ?_, HY.out.2⟩⟩, by simp [intOf]; omega⟩
          by_cases e : a = j
          · subst e
            rw [HP.out.1] at hq
            have : p = q := by have := Option.some.inj hq; omega
            subst this
            exact HY.out.1 i hi
          · exact HX.out.1 a q (by omega) hq i hi
        · have hk2 : k < m := by omega
          obtain ⟨kz, hkz⟩ : ∃ kz, kz = k * sz := ⟨_, rfl⟩
          have hprod : (k : Int) * (sz : Int) = (kz : Int) := by rw [hkz]; simp
          have hkzb : kz ≤ 960 := by
            have h1 := HH.out.2.2.2.2.2.1.page
            have h2 := Nat.mul_le_mul_right sz (Nat.le_of_lt hk2)
            omega
          have hpl : place sz p k = s1 + 64 + kz := by unfold place; rw [HP.out.2.2.2, hkz]
          have HPL := hid hpl
          clear hkz hpl
          go_wp2_with (go_at_call 26; refine (HMC.out _).mono ?_; rintro e wx ⟨rfl, ex⟩; rw [ex]; clear ex wx)
          go_quiet (fail)
          have hYz : Below w.heap.size w (wr.drewN nq) := Below.drewN HY.out.2 nq
          have z3 : (wr.drewN nq).cell? ⟨c, 3, none⟩ = some (.slice a2 ul cap2) := e3
          generalize wr.drewN nq = wz at *
          clear e1 e2 e3 es
          have hCz := HH.out.2.2.2.1.below hYz
          have HHas := hid (show Calls Tryz.prog 82 #[.slice a2 ul cap2, .int .i64 ((s1 : Int) + 64 + (kz : Int))] wz (HasN (usedOf U sz m (2 ^ K)) ((s1 : Int) + 64 + (kz : Int)) wz) from by
            rw [HUL.out]
            exact ihas_any wz 0 _ _ _ hCz.rU HLU.out)
          have HPut := hid (show Calls Tryz.prog 83 #[.slice a2 ul cap2, .int .i64 ((s1 : Int) + 64 + (kz : Int))] wz (PutN (usedOf U sz m (2 ^ K)) (s1 + 64 + kz) wz) from by
            have h := iput_any wz 0 _ _ (s1 + 64 + kz) hCz.rU HLU.out (by omega)
            rw [show ((s1 + 64 + kz : Nat) : Int) = (s1 : Int) + 64 + (kz : Int) by omega] at h
            rw [HUL.out]
            exact h)
          have HCZ := hid (And.intro hCz hYz)
          clear hCz hYz hprod
          go_wp2_with fail
          refine HHas.out.mono ?_
          rintro e wx ⟨f, rfl, hf, rfl⟩
          cases f with
          | true =>
            have hUk : U p k = true := by
              obtain ⟨y, hy, he⟩ := hf.out.1 rfl
              have : y = place sz p k := by rw [HPL.out]; omega
              subst this
              exact (used_is HH.out.2.2.2.2.2.1.pos HH.out.2.2.2.2.2.1.page HP.out.2.1 hk2).1 hy
            have HUK := hid hUk
            clear hUk hf
            go_wp2_with fail
            refine ⟨⟨k + 1, by go_num, by omega, hid ⟨fun k' hk' => ?_, HCZ.out.2⟩⟩, by simp [intOf]; omega⟩
            by_cases e : k' = k
            · subst e; exact HUK.out
            · exact HY.out.1 k' (by omega)
          | false =>
            have hUk : U p k = false := by
              cases e : U p k with
              | false => rfl
              | true =>
                have := hf.out.2 ⟨place sz p k, (used_is HH.out.2.2.2.2.2.1.pos HH.out.2.2.2.2.2.1.page HP.out.2.1 hk2).2 e, by rw [HPL.out]; omega⟩
                cases this
            have HUK := hid hUk
            clear hUk hf
            go_wp2_with fail
            refine HPut.out.mono ?_
            rintro e w4 ⟨a4, cap4, t4, rfl, hst4, hI4, hb4⟩
            have hh4 := (hb4.block c HCZ.out.1.lc).trans HCZ.out.1.head
            have hfz4 : w4.frozen? ⟨c, 3, none⟩ = false := by simp [World.frozen?, hh4]
            have hz4 : w4.cell? ⟨c, 3, none⟩ = some (.slice a2 ul cap2) := by rw [cell_of_row _ _ _ _ _ _ hh4, HUL.out]; rfl
            have H4 := hid (And.intro hst4 (And.intro hI4 hb4))
            clear hst4 hI4 hb4 hh4
            go_wp2_with fail
            go_ret2
            have hz := HH.out.2.2.2.2.2.1
            have hTk := take_found (fun q hq => (HH.out.2.2.2.2.1.page q hq).2) HP.out.1 (by exact HX.out.1) hk2 HUK.out HY.out.1
            have eU : insAt (usedOf U sz m (2 ^ K)) (s1 + 64 + kz) t4 = usedOf (setU U p k true) sz m (2 ^ K) := ins_is (usedOf_up hz.pos hz.page) (usedOf_up hz.pos hz.page) (stop_put H4.out.1.out (usedOf_up hz.pos hz.page) (fun h => by
              rw [← HPL.out] at h
              have := (used_is hz.pos hz.page HP.out.2.1 hk2).1 h
              rw [HUK.out] at this; cases this)) (fun y => by rw [← HPL.out]; exact used_on hk2 HP.out.2.1 y)
            have hC5 := HCZ.out.1.setU_ H4.out.2.2 H4.out.2.1.out eU (slabs_same HP.out.2.2.1 true (slb_on hk2))
            have t1 : Turn (fun x => x = c) w w4 := Turn.of_below (HCZ.out.2.trans (H4.out.2.2.mono HCZ.out.2.size))
            have t2 := t1.but (But.setCell (p := ⟨c, 3, none⟩) (But.refl c w4) (.inl rfl) (.slice a4 ((usedOf U sz m (2 ^ K)).length + 1) cap4)) (.inl rfl)
            refine ⟨B, setU U p k true, _, _, _, _, _, _, t2.wide (fun x hx => .inl hx), HH.out.2.1, HH.out.2.2.1, HH.out.1.turn t2 (fun x hx hzr => HH.out.2.2.2.2.2.2.2.2.1 (hx ▸ hzr)), hC5, .inr ⟨p, k, ?_, hTk, .inl ⟨HP.out.2.2.1, rfl⟩, HP.out.2.1⟩⟩
            show Ending.returned (.tuple #[.int .i64 ((s1 : Int) + 64 + (kz : Int)), .int .i64 0]) = _
            rw [show (s1 : Int) + 64 + (kz : Int) = ((place sz p k : Nat) : Int) from by rw [HPL.out]; omega]
end Go.Proofs.YtdmnemgooagehaaGreatDoor
