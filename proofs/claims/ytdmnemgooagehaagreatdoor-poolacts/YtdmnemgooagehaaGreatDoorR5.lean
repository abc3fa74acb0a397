/- The document's allocator: the contract of Take. -/
import Derived.Test.YtdmnemgooagehaaGreatDoorR4
namespace Go.Proofs.YtdmnemgooagehaaGreatDoor
open Go.RowKit Go.Maps

theorem Turn.bel {S : Nat → Prop} {a w w' : World} (h : Turn S a w) (hb : Below w.heap.size w w') : Turn S a w' := h.trans (Turn.of_below hb)
theorem Slc.weaken {w : World} {base b2 : Nat} {v : Value} {L : List (Nat × Nat)} (h : Slc w base v L) (hb : b2 ≤ base) : Slc w b2 v L := by
  obtain ⟨a, cap, e, hr, h1⟩ := h
  refine ⟨a, cap, e, ?_, h1⟩
  rcases hr with h | ⟨g, e, h2, r⟩
  · exact .inl h
  · exact .inr ⟨g, e, by omega, r⟩
theorem Slc.far {w : World} {base r : Nat} {v : Value} {L : List (Nat × Nat)} (h : Slc w base v L) (hr : r < base) : L.length = 0 ∨ v.ownBlock ≠ some r := by
  obtain ⟨a, cap, rfl, hr', _⟩ := h
  rcases hr' with h | ⟨g, rfl, h2, _⟩
  · exact .inl h
  · right
    intro e
    have : g = r := by simpa [Value.ownBlock] using e
    omega
theorem split_new {K : Nat} {B : St} (h : Inv K B) {k i : Nat} (hh : HeldAt B (k + 1) i) : B k (2 * i + 1) ≠ .free := by
  intro hf
  have hb : B (k + 1) i = .held := (hh _ _).2 ⟨rfl, rfl⟩
  have := h.one ((2 * i + 1) * 2 ^ k) (k + 1) k (by rw [half_div, Nat.mul_div_cancel _ (Nat.two_pow_pos _), show (2 * i + 1) / 2 = i from by omega, hb]; simp) (by rw [Nat.mul_div_cancel _ (Nat.two_pow_pos _), hf]; simp)
  omega

section
variable {w w' : World} {r K : Nat} {Z : Nat → Prop} {B B' : St} {vF vU : Value} {F U F' U' : List (Nat × Nat)}
/-- The free list turned into a new one. -/
theorem RefM.setF (h : RefM w r Z K B vF vU F U) (hb : Below w.heap.size w w') {v : Value} (hs : Slc w' w.heap.size v F') (hl : Lst B' .free F') (hu : SameUsed B B') : RefM (w'.setCell ⟨r, 1, none⟩ v) r Z K B' v vU F' U := by
  have hh := (hb.block r h.lr).trans h.head
  have hv := hs.far h.lr
  have hoth : ∀ x, x ≠ r → (w'.setCell ⟨r, 1, none⟩ v).heap[x]? = w'.heap[x]? := fun x hx => Below.heap_setCell _ _ _ _ hx
  have hsz : (w'.setCell ⟨r, 1, none⟩ v).heap.size = w'.heap.size := by simp
  have hbs := hb.size
  refine ⟨by rw [setCell_head hh]; rfl, (hs.weaken (Nat.zero_le _)).keep (by omega) (hv.imp id fun f x hx => hoth x (fun e => f (by rw [← e]; exact hx))), ?_, hl, ?_, hv, h.aU, ?_, h.oU, h.br, fun x hx => h.new x (by omega), h.small⟩
  · refine (h.sU.keep hb.size ?_).keep (by omega) (h.aU.imp id fun f x hx => hoth x (fun e => f (by rw [← e]; exact hx)))
    rcases h.sU.lt with e | e
    · exact .inl e
    · exact .inr fun x hx => hb.block x (e x hx).2
  · exact ⟨h.lU.rise, fun p k => (h.lU.mem p k).trans (exists_congr fun i => and_congr_right fun _ => hu k i)⟩
  · exact hs.lt.imp id fun f x hx => h.new x (f x hx).1
theorem RefM.setU (h : RefM w r Z K B vF vU F U) (hb : Below w.heap.size w w') {v : Value} (hs : Slc w' w.heap.size v U') (hf : ∀ k i, B k i = .free ↔ B' k i = .free) (hl : Lst B' .used U') : RefM (w'.setCell ⟨r, 2, none⟩ v) r Z K B' vF v F U' := by
  have hh := (hb.block r h.lr).trans h.head
  have hv := hs.far h.lr
  have hoth : ∀ x, x ≠ r → (w'.setCell ⟨r, 2, none⟩ v).heap[x]? = w'.heap[x]? := fun x hx => Below.heap_setCell _ _ _ _ hx
  have hsz : (w'.setCell ⟨r, 2, none⟩ v).heap.size = w'.heap.size := by simp
  have hbs := hb.size
  refine ⟨by rw [setCell_head hh]; rfl, ?_, (hs.weaken (Nat.zero_le _)).keep (by omega) (hv.imp id fun f x hx => hoth x (fun e => f (by rw [← e]; exact hx))), ?_, hl, h.aF, hv, h.oF, ?_, h.br, fun x hx => h.new x (by omega), h.small⟩
  · refine (h.sF.keep hb.size ?_).keep (by omega) (h.aF.imp id fun f x hx => hoth x (fun e => f (by rw [← e]; exact hx)))
    rcases h.sF.lt with e | e
    · exact .inl e
    · exact .inr fun x hx => hb.block x (e x hx).2
  · exact ⟨h.lF.rise, fun p k => (h.lF.mem p k).trans (exists_congr fun i => and_congr_right fun _ => hf k i)⟩
  · exact hs.lt.imp id fun f x hx => h.new x (f x hx).1
end

theorem RefM.but {w w' : World} {r K x : Nat} {Z : Nat → Prop} {B : St} {vF vU : Value} {F U : List (Nat × Nat)} (h : RefM w r Z K B vF vU F U) (hb : But x w w') (hr : r ≠ x) (hF : F.length = 0 ∨ vF.ownBlock ≠ some x) (hU : U.length = 0 ∨ vU.ownBlock ≠ some x) : RefM w' r Z K B vF vU F U := by
  refine ⟨by rw [hb.block r h.lr hr]; exact h.head, h.sF.keep hb.size ?_, h.sU.keep hb.size ?_, h.lF, h.lU, h.aF, h.aU, h.oF, h.oU, h.br, fun y hy => h.new y (Nat.le_trans hb.size hy), h.small⟩
  · rcases h.sF.lt with e | e
    · exact .inl e
    · exact hF.imp id fun f y hy => hb.block y (e y hy).2 (fun e2 => f (by rw [← e2]; exact hy))
  · rcases h.sU.lt with e | e
    · exact .inl e
    · exact hU.imp id fun f y hy => hb.block y (e y hy).2 (fun e2 => f (by rw [← e2]; exact hy))
theorem Slc.old {w : World} {base x : Nat} {v : Value} {L : List (Nat × Nat)} (h : Slc w base v L) (hx : w.heap.size ≤ x) : L.length = 0 ∨ v.ownBlock ≠ some x := by
  obtain ⟨a, cap, rfl, hr, _⟩ := h
  rcases hr with h | ⟨g, rfl, _, hg, _⟩
  · exact .inl h
  · right
    intro e
    have : g = x := by simpa [Value.ownBlock] using e
    omega

def RTook (w : World) (r : Nat) (Z : Nat → Prop) (K : Nat) (B : St) (N : Int) (e : Ending) (w' : World) : Prop :=
  ∃ (at_ er : Int) (B' : St) (vF vU : Value) (F U : List (Nat × Nat)), e = .returned (.tuple #[.int .i64 at_, .int .i64 er]) ∧ Turn (fun x => x = r) w w' ∧ Inv K B' ∧ NoHeld B' ∧ RefM w' r Z K B' vF vU F U ∧
    ((at_ = 0 ∧ B' = B ∧ ((er = 1 ∧ (N < 0 ∨ (K : Int) < N)) ∨ er = 4 ∧ ∃ o : Nat, N = (o : Int) ∧ o ≤ K ∧ ∀ k j, o ≤ k → B k j ≠ .free)) ∨
     er = 0 ∧ ∃ o k i n : Nat, N = (o : Int) ∧ o ≤ K ∧ Least B o k i ∧ at_ = addr k i ∧ addr o n = addr k i ∧ B o n ≠ .used ∧ Plus B B' o n)

theorem rtake_bad (w : World) (r : Nat) (Z : Nat → Prop) (K : Nat) (B : St) (vF vU : Value) (F U : List (Nat × Nat)) (N : Int) (h : RefM w r Z K B vF vU F U) (hi : Inv K B) (hn : NoHeld B) (hN : N < 0 ∨ (K : Int) < N) :
    Calls Tryz.prog 21 #[.pointer (some ⟨r, 0, none⟩), .int .i64 N] w (RTook w r Z K B N) := by
  have h0 := h.cK
  have HH := hid (And.intro h (And.intro hi hn))
  clear h hi hn
  by_cases hlt : N < 0
  · go_enter Tryz.func21, Tryz.ntmps21
    go_wp2
    go_ret2
    exact ⟨_, _, B, vF, vU, F, U, rfl, Turn.refl _ _, HH.out.2.1, HH.out.2.2, HH.out.1, .inl ⟨rfl, rfl, .inl ⟨rfl, .inl hlt⟩⟩⟩
  · have hgt : (K : Int) < N := by omega
    go_enter Tryz.func21, Tryz.ntmps21
    go_wp2
    go_ret2
    exact ⟨_, _, B, vF, vU, F, U, rfl, Turn.refl _ _, HH.out.2.1, HH.out.2.2, HH.out.1, .inl ⟨rfl, rfl, .inl ⟨rfl, .inr hgt⟩⟩⟩

theorem best_none {L : List (Nat × Nat)} {o i p k : Nat} (hx : L[i]? = some (p, k)) (ho : o ≤ k) (h : Best L o i (-1)) : Best L o (i + 1) (i : Int) := by
  rcases h with ⟨_, hn⟩ | ⟨j, _, _, e, _⟩
  · refine .inr ⟨i, p, k, rfl, by omega, hx, ho, fun j' p' k' hj hx' ho' => ?_, fun j' p' k' hj hx' ho' => ?_⟩
    · by_cases e : j' = i
      · subst e; rw [hx] at hx'; obtain ⟨rfl, rfl⟩ : p = p' ∧ k = k' := by simpa using hx'
        exact Nat.le_refl _
      · have := hn j' p' k' (by omega) hx'; omega
    · have := hn j' p' k' hj hx'; omega
  · omega
theorem best_less {L : List (Nat × Nat)} {o i p k j pj kj : Nat} (hx : L[i]? = some (p, k)) (ho : o ≤ k) (hj : L[j]? = some (pj, kj)) (hlt : k < kj) (h : Best L o i (j : Int)) : Best L o (i + 1) (i : Int) := by
  rcases h with ⟨e, _⟩ | ⟨j1, p1, k1, e, hj1, hx1, ho1, h1, h2⟩
  · omega
  · obtain rfl : j = j1 := by omega
    rw [hj] at hx1
    obtain ⟨rfl, rfl⟩ : pj = p1 ∧ kj = k1 := by simpa using hx1
    refine .inr ⟨i, p, k, rfl, by omega, hx, ho, fun j' p' k' hj' hx' ho' => ?_, fun j' p' k' hj' hx' ho' => ?_⟩
    · by_cases e : j' = i
      · subst e; rw [hx] at hx'; obtain ⟨rfl, rfl⟩ : p = p' ∧ k = k' := by simpa using hx'
        exact Nat.le_refl _
      · have := h1 j' p' k' (by omega) hx' ho'; omega
    · have := h1 j' p' k' hj' hx' ho'; omega
theorem best_skip {L : List (Nat × Nat)} {o i p k : Nat} {b : Int} (hx : L[i]? = some (p, k)) (h : Best L o i b) (hs : k < o ∨ ∃ j pj kj : Nat, b = (j : Int) ∧ L[j]? = some (pj, kj) ∧ kj ≤ k) : Best L o (i + 1) b := by
  rcases h with ⟨rfl, hn⟩ | ⟨j1, p1, k1, rfl, hj1, hx1, ho1, h1, h2⟩
  · refine .inl ⟨rfl, fun j' p' k' hj' hx' => ?_⟩
    by_cases e : j' = i
    · subst e; rw [hx] at hx'; obtain ⟨rfl, rfl⟩ : p = p' ∧ k = k' := by simpa using hx'
      rcases hs with hs | ⟨j, _, _, e, _⟩
      · exact hs
      · omega
    · exact hn j' p' k' (by omega) hx'
  · refine .inr ⟨j1, p1, k1, rfl, by omega, hx1, ho1, fun j' p' k' hj' hx' ho' => ?_, h2⟩
    by_cases e : j' = i
    · subst e; rw [hx] at hx'; obtain ⟨rfl, rfl⟩ : p = p' ∧ k = k' := by simpa using hx'
      rcases hs with hs | ⟨j, pj, kj, e, hj, hle⟩
      · omega
      · obtain rfl : j1 = j := by omega
        rw [hx1] at hj
        obtain ⟨rfl, rfl⟩ : p1 = pj ∧ k1 = kj := by simpa using hj
        exact hle
    · exact h1 j' p' k' (by omega) hx' ho'

end Go.Proofs.YtdmnemgooagehaaGreatDoor
