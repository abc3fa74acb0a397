/- The document's pool, new. -/
import Derived.Test.YtdmnemgooagehaaGreatDoorO6
import Derived.Test.YtdmnemgooagehaaGreatDoorK7
import Derived.Test.YtdmnemgooagehaaGreatDoorA6
namespace Go.Proofs.YtdmnemgooagehaaGreatDoor
open Go.RowKit Go.Maps

def pj (rb : Nat → Nat) (k j : Nat) : Value := if j < k then .pointer (some ⟨rb j, 0, none⟩) else .pointer none
def rpRow (N r rq : Nat) (rb : Nat → Nat) (k : Nat) : Array Value := #[.int .i64 (N : Int), .pointer (some ⟨r, 0, none⟩), .pointer (some ⟨rq, 0, none⟩), .pointer none, pj rb k 1, pj rb k 2, pj rb k 3, pj rb k 4, pj rb k 5, pj rb k 6, pj rb k 7]
def G0 (w0 w : World) (x : Nat) : Prop := w0.heap.size ≤ x ∧ x < w.heap.size
structure RpJ (w0 w : World) (tg : Nat → Nat) (rp r rq rg cap K N M : Nat) (rb : Nat → Nat) (k : Nat) (vF : Value) : Prop where
  hd : w.heap[rp]? = some (.cells (rpRow N r rq rb k) 80)
  rm : RefM w r (Zt w (G0 w0 w) tg 2) K (begin_ K) vF (.slice none 0 0) [(0, K)] []
  rt : Qu.Rm w rq rg cap [⟨0, -1, M, 0⟩] 1
  rc : ∀ j, 1 ≤ j → j < k → j ≤ 7 → RefC w (rb j) r (Zt w (G0 w0 w) tg (10 + j)) (cost j) (many j) (2 ^ K) none_ (.slice none 0 0) (.slice none 0 0)
  tp : tg rp = 1
  tr : tg r = 2
  tq : tg rq = 3
  tgg : tg rg = 3
  tb : ∀ j, 1 ≤ j → j < k → j ≤ 7 → tg (rb j) = 10 + j
  lo : w0.heap.size ≤ rp ∧ w0.heap.size ≤ rq ∧ w0.heap.size ≤ rg
  new : ∀ x, w.heap.size ≤ x → tg x = 0
  bel : Below w0.heap.size w0 w
section
variable {w0 w w1 : World} {tg : Nat → Nat} {rp r rq rg cap K N M k : Nat} {rb : Nat → Nat} {vF : Value}
theorem rpRow_set {b : Nat} (h1 : 1 ≤ k) (h7 : k ≤ 7) : (rpRow N r rq rb k).setIfInBounds (3 + k) (.pointer (some ⟨b, 0, none⟩)) = rpRow N r rq (now rb k b) (k + 1) := by
  rcases cls h1 h7 with rfl | rfl | rfl | rfl | rfl | rfl | rfl <;> rfl
theorem irow_nil {w : World} {b : Nat} : ∀ L, L = [] → Irow w b (.slice none 0 0) L := fun L e => by subst e; exact ⟨rfl, .inl ⟨rfl, rfl⟩⟩
theorem RpJ.next (h : RpJ w0 w tg rp r rq rg cap K N M rb k vF) (h1 : 1 ≤ k) (h7 : k ≤ 7) {b : Nat} (hold : ∀ x, x < w.heap.size → x ≠ rp → w1.heap[x]? = w.heap[x]?) (hrow : w1.heap[rp]? = some (.cells (rpRow N r rq (now rb k b) (k + 1)) 80)) (hc : w1.heap[b]? = some (.cells #[.pointer (some ⟨r, 0, none⟩), .int .i64 ((cost k : Nat) : Int), .slice none 0 0, .slice none 0 0] 40)) (hbl : w.heap.size ≤ b) (hbs : w.heap.size ≤ w1.heap.size) (hbel : Below w0.heap.size w0 w1) : RpJ w0 w1 (fun x => if x = b then 10 + k else tg x) rp r rq rg cap K N M (now rb k b) (k + 1) vF := by
  have hb0 := h.bel.size
  have hlp : rp < w.heap.size := lt_of h.hd
  have hlr := h.rm.lr
  have hlq := h.rt.lq
  have hlg := h.rt.lg
  have hcl : b < w1.heap.size := (Array.getElem?_eq_some_iff.1 hc).1
  have hag : ∀ x, x < w.heap.size → (if x = b then 10 + k else tg x) = tg x := fun x hx => if_neg (by omega)
  have hnw : ∀ x, w1.heap.size ≤ x → (if x = b then 10 + k else tg x) = 0 := fun x hx => by
    rw [if_neg (by omega)]
    exact h.new x (by omega)
  have hz : ∀ t x, x < w.heap.size → Zt w (G0 w0 w) tg t x → Zt w1 (G0 w0 w1) (fun x => if x = b then 10 + k else tg x) t x := fun t x hx hz => ⟨.inl ⟨by rcases hz.1 with e | e; exact e.1; omega, by omega⟩, by show (if x = b then 10 + k else tg x) = 0 ∨ (if x = b then 10 + k else tg x) = t; rw [hag x hx]; exact hz.2⟩
  have hn : ∀ t x, w1.heap.size ≤ x → Zt w1 (G0 w0 w1) (fun x => if x = b then 10 + k else tg x) t x := fun t x hx => ⟨.inr hx, .inl (hnw x hx)⟩
  have hk : ∀ t, t ≠ 1 → ∀ x, x < w.heap.size → Zt w (G0 w0 w) tg t x → w1.heap[x]? = w.heap[x]? := fun t ht x hx hz => hold x hx (fun e => by
    subst e
    have := h.tp
    rcases hz.2 with e | e <;> omega)
  have hne : ∀ x, tg x ≠ 1 → x ≠ rp := fun x hx e => hx (e ▸ h.tp)
  refine ⟨?_, h.rm.move (by omega) (hk 2 (by omega)) (hz 2) (hn 2), h.rt.other (hold _ hlq (hne _ (by rw [h.tq]; omega))) (hold _ hlg (hne _ (by rw [h.tgg]; omega))), fun j j1 jk j7 => ?_, (hag _ hlp).trans h.tp, (hag _ hlr).trans h.tr, (hag _ hlq).trans h.tq, (hag _ hlg).trans h.tgg, fun j j1 jk j7 => ?_, h.lo, hnw, ?_⟩
  · exact hrow
  · by_cases e : j = k
    · subst e
      rw [now_at]
      refine ⟨hc, irow_nil _ (slabsOf_none _ _), irow_nil _ (usedOf_none _ _ _), fun x e => by simp [Value.ownBlock] at e, fun x e => by simp [Value.ownBlock] at e, by simp [Value.ownBlock], by simp [Value.ownBlock], ⟨.inl ⟨by omega, by omega⟩, .inr (if_pos rfl)⟩, hn _⟩
    · rw [now_ne _ _ e]
      exact (h.rc j j1 (by omega) j7).move (by omega) (hk _ (by omega)) (hz _) (hn _)
  · by_cases e : j = k
    · subst e
      rw [now_at]
      exact if_pos rfl
    · rw [now_ne _ _ e]
      exact (hag _ (h.rc j j1 (by omega) j7).lc).trans (h.tb j j1 (by omega) j7)
  · exact hbel
theorem RpJ.fin (h : RpJ w0 w tg rp r rq rg cap K N M rb 8 vF) : RefP w (G0 w0 w) tg ⟨rp, r, rq, rb, K, N⟩ (begin_ K) (fun _ => none_) [⟨0, -1, M, 0⟩] 1 rg cap vF (.slice none 0 0) [(0, K)] [] (fun _ => .slice none 0 0) (fun _ => .slice none 0 0) := by
  have hlp : rp < w.heap.size := lt_of h.hd
  exact ⟨h.hd, h.rm, h.rt, fun j j1 j7 => h.rc j j1 (by omega) j7, h.tp, h.tr, h.tq, h.tgg, fun j j1 j7 => h.tb j j1 (by omega) j7, ⟨h.lo.1, hlp⟩, ⟨h.lo.2.1, h.rt.lq⟩, ⟨h.lo.2.2, h.rt.lg⟩, h.new⟩
end
def RpNew (w : World) (K N M : Nat) (e : Ending) (w' : World) : Prop := ∃ tg R rg cap vF, e = .returned (.pointer (some ⟨R.rp, 0, none⟩)) ∧ R.K = K ∧ R.N = N ∧ Below w.heap.size w w' ∧
  RefP w' (G0 w w') tg R (begin_ K) (fun _ => none_) [⟨0, -1, M, 0⟩] 1 rg cap vF (.slice none 0 0) [(0, K)] [] (fun _ => .slice none 0 0) (fun _ => .slice none 0 0)
set_option maxHeartbeats 2000000 in
set_option maxRecDepth 100000 in
theorem rpnew_any (K M : Nat) (w : World) (hK : K ≤ 20) : Calls Tryz.prog 37 #[.int .i64 ((1024 * 2 ^ K : Nat) : Int), .int .i64 (M : Int)] w (RpNew w K (1024 * 2 ^ K) M) := by
  have HR := hid (fun w => rnew_any K w hK)
  obtain ⟨N, hN⟩ : ∃ N, N = 1024 * 2 ^ K := ⟨_, rfl⟩
  rw [← hN] at HR ⊢
  clear hN
  go_enter Tryz.func37, Tryz.ntmps37
  go_wp2_with fail
  refine (HR.out w).mono ?_
  rintro e w1 ⟨r, vF, rfl, hR, hb1⟩
  have H1 := hid (And.intro hR hb1)
  clear hR hb1
  go_wp2_with fail
  refine (Qu.rnew_any M w1).mono ?_
  rintro e w2 ⟨rq, rg, cap, rfl, hm, hq, hg, hb2'⟩
  have hb2 : Below w1.heap.size w1 w2 := ⟨hb2'.os, hb2'.tape, hb2'.output, hb2'.size, hb2'.block⟩
  have H0 : Hid (RpJ w (w2.alloc (.cells (rpRow N r rq (fun _ => 0) 1) 80)) (fun x => if x = w2.heap.size then 1 else if x = rq ∨ x = rg then 3 else if x = r then 2 else 0) w2.heap.size r rq rg cap K N M (fun _ => 0) 1 vF) := hid (by
    obtain ⟨hR, hb1⟩ := H1.out
    have s1 := hb1.size
    have s2 := hb2.size
    have hlq := hm.lq
    have hlg := hm.lg
    have hlr := hR.lr
    have hlor : w.heap.size ≤ r := hR.br
    have hsz : (w2.alloc (.cells (rpRow N r rq (fun _ => 0) 1) 80)).heap.size = w2.heap.size + 1 := by simp
    have hb3 : Below w2.heap.size w2 (w2.alloc (.cells (rpRow N r rq (fun _ => 0) 1) 80)) := (Below.refl _ _).alloc (Nat.le_refl _) _
    refine ⟨heap_alloc_new _ _, ?_, hm.other (hb3.block _ hlq) (hb3.block _ hlg), fun j j1 j2 => by omega, if_pos rfl, ?_, ?_, ?_, fun j j1 j2 => by omega, ⟨by omega, by omega, by omega⟩, fun x hx => ?_, (hb1.trans (hb2.mono s1)).trans (hb3.mono (by omega))⟩
    · refine hR.move (by omega) (fun x hx _ => (hb3.block x (by omega)).trans (hb2.block x hx)) (fun x hx hz => ⟨.inl ⟨hz, by omega⟩, ?_⟩) (fun x hx => ⟨.inr hx, .inl ?_⟩)
      · show (if x = w2.heap.size then 1 else if x = rq ∨ x = rg then 3 else if x = r then 2 else 0) = 0 ∨ (if x = w2.heap.size then 1 else if x = rq ∨ x = rg then 3 else if x = r then 2 else 0) = 2
        rw [if_neg (by omega), if_neg (by omega)]
        by_cases e : x = r
        · rw [if_pos e]; exact .inr rfl
        · rw [if_neg e]; exact .inl rfl
      · show (if x = w2.heap.size then 1 else if x = rq ∨ x = rg then 3 else if x = r then 2 else 0) = 0
        rw [if_neg (by omega), if_neg (by omega), if_neg (by omega)]
    · show (if r = w2.heap.size then 1 else if r = rq ∨ r = rg then 3 else if r = r then 2 else 0) = 2
      rw [if_neg (by omega), if_neg (by omega), if_pos rfl]
    · show (if rq = w2.heap.size then 1 else if rq = rq ∨ rq = rg then 3 else if rq = r then 2 else 0) = 3
      rw [if_neg (by omega), if_pos (.inl rfl)]
    · show (if rg = w2.heap.size then 1 else if rg = rq ∨ rg = rg then 3 else if rg = r then 2 else 0) = 3
      rw [if_neg (by omega), if_pos (.inr rfl)]
    · show (if x = w2.heap.size then 1 else if x = rq ∨ x = rg then 3 else if x = r then 2 else 0) = 0
      rw [if_neg (by omega), if_neg (by omega), if_neg (by omega)])
  clear hm hq hg hb2 hb2' H1
  go_wp2_with fail
  obtain ⟨rp, hrp⟩ : ∃ rp, rp = w2.heap.size := ⟨_, rfl⟩
  generalize (fun x => if x = w2.heap.size then 1 else if x = rq ∨ x = rg then 3 else if x = r then 2 else 0) = tg0 at H0
  rw [← hrp] at H0 ⊢
  clear hrp
  go_loopw [6] (fun t wr => ∃ (k : Nat) (tg : Nat → Nat) (rb : Nat → Nat), 1 ≤ k ∧ k ≤ 8 ∧ t = .int .i64 (k : Int) ∧ Hid (RpJ w wr tg rp r rq rg cap K N M rb k vF)) (fun t _ => 8 - (intOf t).toNat)
  case atStart => exact ⟨1, tg0, fun _ => 0, by omega, by omega, rfl, H0⟩
  case round =>
    obtain ⟨k, tg, rb, h1, h8, rfl, hP⟩ := hrel
    clear H0
    by_cases hlt : k < 8
    · have hk8 : (k : Int) < 8 := by omega
      have hp1 : wr.cell? ⟨rp, 1, none⟩ = some (.pointer (some ⟨r, 0, none⟩)) := by rw [cell_of_row wr rp 1 _ _ _ hP.out.hd]; rfl
      have hplt := lt_of hP.out.hd
      obtain ⟨z, hz⟩ : ∃ z, z = ((cost k : Nat) : Int) := ⟨_, rfl⟩
      have HCO := hid (fun wx => show Calls Tryz.prog 43 #[.int .i64 (k : Int)] wx (fun e w' => e = .returned (.int .i64 z) ∧ w' = wx) from by rw [hz, ← costI_of (c := (k : Int)) ⟨rfl, h1, by omega⟩]; exact rcost_any _ _)
      have HZ := hid hz
      clear hz
      have hh := hP.out.hd
      obtain ⟨ws, hws⟩ : ∃ ws, ws = wr.setCell ⟨rp, 3 + k, none⟩ (.pointer (some ⟨wr.heap.size, 0, none⟩)) := ⟨_, rfl⟩
      have hss : ws.heap.size = wr.heap.size := by rw [hws]; simp
      have hsr : ws.heap[rp]? = some (.cells (rpRow N r rq (now rb k wr.heap.size) (k + 1)) 80) := by rw [hws, heap_setCell_same _ rp (3 + k) _ _ _ hh, rpRow_set h1 (by omega)]
      have hso : ∀ x, x ≠ rp → ws.heap[x]? = wr.heap[x]? := fun x hx => by rw [hws]; exact Below.heap_setCell _ _ _ _ hx
      have hsb : Below w.heap.size w ws := by rw [hws]; exact Below.of_but hP.out.bel hP.out.bel.size (But.setCell (But.refl rp wr) (.inl rfl) _) hP.out.lo.1
      obtain ⟨W3, hW3⟩ : ∃ W3, W3 = (ws.alloc (.cells #[.pointer (some ⟨r, 0, none⟩), .int .i64 z, .slice none 0 0, .slice none 0 0] 40)).drew := ⟨_, rfl⟩
      have hb3 : Below ws.heap.size ws W3 := by rw [hW3]; exact ((Below.refl _ ws).alloc (Nat.le_refl _) _).drew
      have hc3 : W3.heap[wr.heap.size]? = some (.cells #[.pointer (some ⟨r, 0, none⟩), .int .i64 z, .slice none 0 0, .slice none 0 0] 40) := by rw [hW3, ← hss]; exact heap_alloc_new ws _
      have hr3 : W3.heap[rp]? = some (.cells (rpRow N r rq (now rb k wr.heap.size) (k + 1)) 80) := (hb3.block rp (by omega)).trans hsr
      have hp3 : W3.cell? ⟨rp, 1, none⟩ = some (.pointer (some ⟨r, 0, none⟩)) := by rw [cell_of_row _ rp 1 _ _ _ hr3]; rfl
      have HP2 : Hid (RpJ w W3 (fun x => if x = wr.heap.size then 10 + k else tg x) rp r rq rg cap K N M (now rb k wr.heap.size) (k + 1) vF) := hid (hP.out.next h1 (by omega) (fun x hx hn => (hb3.block x (by omega)).trans (hso x hn)) hr3 (by rw [hc3, HZ.out]) (Nat.le_refl _) (by have := hb3.size; omega) (Below.of_below hsb hsb.size hb3))
      have hpc0 : wr.cell? ⟨rp, 3 + k, none⟩ = some (.pointer none) := by
        rw [cell_of_row _ rp (3 + k) _ _ _ hh]
        rcases cls h1 (show k ≤ 7 by omega) with rfl | rfl | rfl | rfl | rfl | rfl | rfl <;> rfl
      have hb2 : Below wr.heap.size wr (wr.alloc (.cells #[.pointer (some ⟨r, 0, none⟩), .int .i64 z, .slice none 0 0, .slice none 0 0] 40)) := (Below.refl _ wr).alloc (Nat.le_refl _) _
      have hpc1 : (wr.alloc (.cells #[.pointer (some ⟨r, 0, none⟩), .int .i64 z, .slice none 0 0, .slice none 0 0] 40)).cell? ⟨rp, 3 + k, none⟩ = some (.pointer none) := (hb2.cell (p := ⟨rp, 3 + k, none⟩) hplt).trans hpc0
      have hpf1 : (wr.alloc (.cells #[.pointer (some ⟨r, 0, none⟩), .int .i64 z, .slice none 0 0, .slice none 0 0] 40)).frozen? ⟨rp, 3 + k, none⟩ = false := frozen_of_row _ rp (3 + k) _ _ ((hb2.block rp hplt).trans hh)
      have hp2 : (wr.alloc (.cells #[.pointer (some ⟨r, 0, none⟩), .int .i64 z, .slice none 0 0, .slice none 0 0] 40)).cell? ⟨rp, 1, none⟩ = some (.pointer (some ⟨r, 0, none⟩)) := (hb2.cell (p := ⟨rp, 1, none⟩) hplt).trans hp1
      rw [hW3, hws] at HP2 hp3
      clear hsb hso hsr hss hr3 hc3 hb3 hb2 hh hW3 hws
      go_wp2_with fail
      have hp1d : wr.drew.cell? ⟨rp, 1, none⟩ = some (.pointer (some ⟨r, 0, none⟩)) := hp1
      refine wp_region_held_drew (S := (fun W => W.cell? ⟨rp, 1, none⟩ = some (.pointer (some ⟨r, 0, none⟩)))) (by kernel_rfl) hp1d (fun hHeld => ?_)
      refine takeH (i := 0) (some 18) (.pointer (some ⟨rp, 0, none⟩)) rfl rfl (by kernel_rfl) (by kernel_rfl) (by kernel_rfl) (fun _ _ _ h => h) (Or.inl ⟨by rfl, ?_⟩) (by assumption) ?_
      · (intro w hSw; (try dsimp only at hSw); go_simp)
      simp only [Act.put, List.setIfInBounds_toArray, List.set_cons_zero, List.set_cons_succ]
      refine takeH (i := 1) (some 19) (.int .i64 (k : Int)) rfl rfl (by kernel_rfl) (by kernel_rfl) (by kernel_rfl) (fun _ _ _ h => h) (Or.inl ⟨by rfl, ?_⟩) (by assumption) ?_
      · (intro w hSw; (try dsimp only at hSw); go_simp)
      simp only [Act.put, List.setIfInBounds_toArray, List.set_cons_zero, List.set_cons_succ]
      refine takeH (i := 2) (some 20) (.pointer (some ⟨rp, 0, none⟩)) rfl rfl (by kernel_rfl) (by kernel_rfl) (by kernel_rfl) (fun _ _ _ h => h) (Or.inl ⟨by rfl, ?_⟩) (by assumption) ?_
      · (intro w hSw; (try dsimp only at hSw); go_simp)
      simp only [Act.put, List.setIfInBounds_toArray, List.set_cons_zero, List.set_cons_succ]
      refine takeH (i := 3) (some 21) (.pointer (some ⟨rp, 0, none⟩)) rfl rfl (by kernel_rfl) (by kernel_rfl) (by kernel_rfl) (fun _ _ _ h => h) (Or.inl ⟨by rfl, ?_⟩) (by assumption) ?_
      · (intro w hSw; (try dsimp only at hSw); go_simp)
      simp only [Act.put, List.setIfInBounds_toArray, List.set_cons_zero, List.set_cons_succ]
      refine takeH (i := 4) (some 22) (.pointer (some ⟨rp, 1, none⟩)) rfl rfl (by kernel_rfl) (by kernel_rfl) (by kernel_rfl) (fun _ _ _ h => h) (Or.inl ⟨by rfl, ?_⟩) (by assumption) ?_
      · (intro w hSw; (try dsimp only at hSw); go_simp)
      simp only [Act.put, List.setIfInBounds_toArray, List.set_cons_zero, List.set_cons_succ]
      refine takeH (i := 5) (some 23) (.pointer (some ⟨r, 0, none⟩)) rfl rfl (by kernel_rfl) (by kernel_rfl) (by kernel_rfl) (fun _ _ _ h => h) (Or.inl ⟨by rfl, ?_⟩) (by assumption) ?_
      · (intro w hSw; (try dsimp only at hSw); go_simp)
      simp only [Act.put, List.setIfInBounds_toArray, List.set_cons_zero, List.set_cons_succ]
      refine takeH (i := 6) (some 24) (.int .i64 (k : Int)) rfl rfl (by kernel_rfl) (by kernel_rfl) (by kernel_rfl) (fun _ _ _ h => h) (Or.inl ⟨by rfl, ?_⟩) (by assumption) ?_
      · (intro w hSw; (try dsimp only at hSw); go_simp)
      simp only [Act.put, List.setIfInBounds_toArray, List.set_cons_zero, List.set_cons_succ]
      refine takeH (i := 10) (some 28) (.pointer (some ⟨rp, 0, none⟩)) rfl rfl (by kernel_rfl) (by kernel_rfl) (by kernel_rfl) (fun _ _ _ h => h) (Or.inl ⟨by rfl, ?_⟩) (by assumption) ?_
      · (intro w hSw; (try dsimp only at hSw); go_simp)
      simp only [Act.put, List.setIfInBounds_toArray, List.set_cons_zero, List.set_cons_succ]
      refine takeH (i := 11) (some 29) (.pointer (some ⟨rp, 3, none⟩)) rfl rfl (by kernel_rfl) (by kernel_rfl) (by kernel_rfl) (fun _ _ _ h => h) (Or.inl ⟨by rfl, ?_⟩) (by assumption) ?_
      · (intro w hSw; (try dsimp only at hSw); go_simp)
      simp only [Act.put, List.setIfInBounds_toArray, List.set_cons_zero, List.set_cons_succ]
      refine wpAnyH_ready (rs := [7]) (by kernel_rfl) (by simp) ?_
      refine AllReadyH.cons (by simp only [List.getElem?_toArray, List.getElem?_cons_succ, List.getElem?_cons_zero]; rfl) (fun KK hK => ?_) AllReadyH.nil
      go_simp
      refine (HCO.out _).mono ?_
      rintro e w5 ⟨rfl, rfl⟩
      go_wp2_with fail
      refine hK.out _ _ hp1d (fun hHeld => ?_)
      clear hK KK
      try simp only [Act.put, List.setIfInBounds_toArray, List.set_cons_zero, List.set_cons_succ]
      refine takeH (i := 8) (some 26) (.agg #[.pointer (some ⟨r, 0, none⟩), .int .i64 z, .slice none 0 0, .slice none 0 0]) rfl rfl (by kernel_rfl) (by kernel_rfl) (by kernel_rfl) (fun _ _ _ h => h) (Or.inl ⟨by rfl, ?_⟩) (by assumption) ?_
      · (intro w hSw; (try dsimp only at hSw); go_simp)
      simp only [Act.put, List.setIfInBounds_toArray, List.set_cons_zero, List.set_cons_succ]
      refine wpAnyH_ready (rs := [9]) (by kernel_rfl) (by simp) ?_
      refine AllReadyH.cons (by simp only [List.getElem?_toArray, List.getElem?_cons_succ, List.getElem?_cons_zero]; rfl) (fun KK hK => ?_) AllReadyH.nil
      go_simp
      refine hK.out _ _ hp2 (fun hHeld => ?_)
      clear hK KK
      try simp only [Act.put, List.setIfInBounds_toArray, List.set_cons_zero, List.set_cons_succ]
      refine takeH (i := 12) (some 30) (.pointer (some ⟨rp, 3 + k, none⟩)) rfl rfl (by kernel_rfl) (by kernel_rfl) (by kernel_rfl) (fun _ _ _ h => h) (Or.inl ⟨by rfl, ?_⟩) (by assumption) ?_
      · (intro w hSw; (try dsimp only at hSw); go_simp)
      simp only [Act.put, List.setIfInBounds_toArray, List.set_cons_zero, List.set_cons_succ]
      refine wpAnyH_ready (rs := [13]) (by kernel_rfl) (by simp) ?_
      refine AllReadyH.cons (by simp only [List.getElem?_toArray, List.getElem?_cons_succ, List.getElem?_cons_zero]; rfl) (fun KK hK => ?_) AllReadyH.nil
      go_simp
      refine hK.out _ _ hp3 (fun hHeld => ?_)
      clear hK KK
      try simp only [Act.put, List.setIfInBounds_toArray, List.set_cons_zero, List.set_cons_succ]
      refine wpAnyH_done (by kernel_rfl) ?_ _
      go_wp2_with fail
      exact ⟨⟨k + 1, _, _, by omega, by omega, by go_num, HP2⟩, by simp [intOf]; omega⟩
    · obtain rfl : k = 8 := by omega
      go_wp2_with fail
      go_ret
      exact ⟨tg, ⟨rp, r, rq, rb, K, N⟩, rg, cap, vF, rfl, rfl, rfl, hP.out.bel, hP.out.fin⟩
end Go.Proofs.YtdmnemgooagehaaGreatDoor
