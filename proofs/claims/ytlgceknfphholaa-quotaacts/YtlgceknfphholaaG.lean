/- The library's slices.IndexFunc and slices.DeleteFunc at a tree's row, one factory struck. -/
import Derived.Test.YtlgceknfphholaaF
import Derived.Lib.SliceRun
import Derived.LaidEqlPtr
namespace Go.Proofs.Ytlgceknfphholaa
open Go.RowKit

theorem info64 : ∃ i, Try.prog.info? 64 = some i ∧ i.size = 4 := by
  have h : (Try.prog.info? 64).map (fun i => i.size) = some 4 := by kernel_rfl
  obtain ⟨i, hi, he⟩ := Option.map_eq_some_iff.1 h
  exact ⟨i, hi, he⟩
theorem eql_same (w : World) (b : Nat) : (binOp .eql 57 (.pointer (some ⟨b, 0, none⟩)) (.pointer (some ⟨b, 0, none⟩))).run Try.prog w = .ok (.bool true) w := by
  obtain ⟨i, hi, _⟩ := info64
  exact run_eql_ptr_same w _ Try.underlying57 hi
theorem eql_other (w : World) (x b : Nat) (hne : x ≠ b) (cx cb : Array Value) (hx : w.heap[x]? = some (.cells cx 64)) (hb : w.heap[b]? = some (.cells cb 64)) : (binOp .eql 57 (.pointer (some ⟨x, 0, none⟩)) (.pointer (some ⟨b, 0, none⟩))).run Try.prog w = .ok (.bool false) w := by
  obtain ⟨i, hi, hs⟩ := info64
  exact run_eql_ptr_other w Try.underlying57 hi (by omega) (fun e => hne (Addr.mk.inj e).1) hx hb

theorem strike_yes (w : World) (c b : Nat) (hc : w.cell? ⟨c, 0, none⟩ = some (.pointer (some ⟨b, 0, none⟩))) :
    Calls Try.prog 33 #[.pointer (some ⟨b, 0, none⟩), .pointer (some ⟨c, 0, none⟩)] w fun e w' => e = .returned (.bool true) ∧ w' = w := by
  have hq := eql_same w b
  go_enter Try.func33, Try.ntmps33
  go_wp2_with fail
  go_ret
  exact ⟨rfl, rfl⟩
theorem strike_no (w : World) (c b x : Nat) (hc : w.cell? ⟨c, 0, none⟩ = some (.pointer (some ⟨b, 0, none⟩))) (hx : x ≠ b) (h1 : ∃ cs, w.heap[x]? = some (.cells cs 64)) (h2 : ∃ cs, w.heap[b]? = some (.cells cs 64)) :
    Calls Try.prog 33 #[.pointer (some ⟨x, 0, none⟩), .pointer (some ⟨c, 0, none⟩)] w fun e w' => e = .returned (.bool false) ∧ w' = w := by
  obtain ⟨cx, h1⟩ := h1
  obtain ⟨cb, h2⟩ := h2
  have hq := eql_other w x b hx cx cb h1 h2
  clear h1 h2 hx
  go_enter Try.func33, Try.ntmps33
  go_wp2_with fail
  go_ret
  exact ⟨rfl, rfl⟩

set_option maxHeartbeats 1000000 in
theorem index_any (w : World) (g n cap c k : Nat) (pt : Nat → Nat) (hk : k < n) (hn : n ≤ 32) (hc : w.cell? ⟨c, 0, none⟩ = some (.pointer (some ⟨pt k, 0, none⟩))) (hr : ∀ t, t < n → w.cell? ⟨g, t, none⟩ = some (.pointer (some ⟨pt t, 0, none⟩))) (hd : ∀ t, t < n → t ≠ k → pt t ≠ pt k) (hf : ∀ t, t < n → ∃ cs, w.heap[pt t]? = some (.cells cs 64)) :
    Calls Try.prog 38 #[.slice (some ⟨g, 0, none⟩) n cap, .func (.func 33) #[] #[.pointer (some ⟨c, 0, none⟩)]] w fun e w' => e = .returned (.int .i64 (k : Int)) ∧ w' = w := by
  have HR := hid hr
  have HS := hid (fun t (h1 : t < n) (h2 : t ≠ k) => strike_no w c (pt k) (pt t) hc (hd t h1 h2) (hf t h1) (hf k hk))
  have HY := hid (strike_yes w c (pt k) hc)
  clear hr hd hc hf
  go_enter Try.func38, Try.ntmps38
  go_wp2_with fail
  go_loop [8] (fun i => ∃ t : Nat, t ≤ k ∧ i = .int .i64 t) (fun i => n - (intOf i).toNat)
  case atStart => exact ⟨0, Nat.zero_le _, rfl⟩
  case round =>
    obtain ⟨t, ht, rfl⟩ := hrel
    have hlt : t < n := by omega
    have hx := HR.out t hlt
    by_cases htk : t < k
    · have HS1 := hid (HS.out t hlt (by omega))
      clear HS HY HR
      generalize pt t = x at *
      go_wp2_with (go_at_call 33; refine HS1.out.mono ?_; rintro e w' ⟨rfl, rfl⟩)
      exact ⟨⟨t + 1, by omega, by go_num⟩, by simp [intOf]; omega⟩
    · obtain rfl : t = k := by omega
      clear HS HR
      generalize pt t = x at *
      go_wp2_with (go_at_call 33; refine HY.out.mono ?_; rintro e w' ⟨rfl, rfl⟩)
      go_ret
      exact ⟨rfl, rfl⟩

/-- The row meanwhile: the places from k on hold what stood one further, as far as j. -/
def mid (pt : Nat → Nat) (k j t : Nat) : Nat := if k ≤ t ∧ t + 1 < j then pt (t + 1) else pt t
def RowIs (w : World) (g cap n : Nat) (pt : Nat → Nat) : Prop := ∃ cur : Array Value, w.heap[g]? = some (.cells cur 57) ∧ cur.size = cap ∧ ∀ t, t < n → cur[t]? = some (.pointer (some ⟨pt t, 0, none⟩))
theorem RowIs.cell {w : World} {g cap n : Nat} {pt : Nat → Nat} (h : RowIs w g cap n pt) {t : Nat} (ht : t < n) : w.cell? ⟨g, t, none⟩ = some (.pointer (some ⟨pt t, 0, none⟩)) := by
  obtain ⟨cur, h1, _, h3⟩ := h
  rw [cell_of_row _ _ _ _ _ _ h1]; exact h3 t ht
theorem RowIs.set {w : World} {g cap n k j : Nat} {pt : Nat → Nat} (h : RowIs w g cap n (mid pt k j)) (hk : k < j) (hn : n ≤ cap) : RowIs (w.setCell ⟨g, j - 1, none⟩ (.pointer (some ⟨pt j, 0, none⟩))) g cap n (mid pt k (j + 1)) := by
  obtain ⟨cur, h1, h2, h3⟩ := h
  refine ⟨_, setCell_head h1 _, by simp [h2], fun t ht => ?_⟩
  by_cases e : t = j - 1
  · subst e
    rw [Array.getElem?_setIfInBounds_self_of_lt (by omega)]
    unfold mid
    rw [if_pos ⟨by omega, by omega⟩, show j - 1 + 1 = j from by omega]
  · rw [Array.getElem?_setIfInBounds_ne (by omega), h3 t ht]
    unfold mid
    by_cases e2 : k ≤ t ∧ t + 1 < j
    · rw [if_pos e2, if_pos ⟨e2.1, by omega⟩]
    · rw [if_neg e2, if_neg (by omega)]

/-- All but the k-th. -/
def past (pt : Nat → Nat) (k t : Nat) : Nat := if t < k then pt t else pt (t + 1)
def DelPost (w : World) (g cap n k : Nat) (pt : Nat → Nat) (e : Ending) (w' : World) : Prop := e = .returned (.slice (some ⟨g, 0, none⟩) (n - 1) cap) ∧ RowIs w' g cap (n - 1) (past pt k) ∧ But g w w'

set_option maxHeartbeats 2000000 in
theorem delete_any (w : World) (g n cap c k : Nat) (pt : Nat → Nat) (hk : k < n) (hn : n ≤ 32) (hnc : n ≤ cap) (hgc : g ≠ c) (hc : w.cell? ⟨c, 0, none⟩ = some (.pointer (some ⟨pt k, 0, none⟩))) (hr : RowIs w g cap n pt) (hd : ∀ t, t < n → t ≠ k → pt t ≠ pt k) (hf : ∀ t, t < n → ∃ cs, w.heap[pt t]? = some (.cells cs 64)) (hgp : ∀ t, t < n → pt t ≠ g) :
    Calls Try.prog 32 #[.slice (some ⟨g, 0, none⟩) n cap, .func (.func 33) #[] #[.pointer (some ⟨c, 0, none⟩)]] w (DelPost w g cap n k pt) := by
  have HI := hid (index_any w g n cap c k pt hk hn hc (fun t ht => hr.cell ht) hd hf)
  have HR := hid hr
  have HS := hid (fun (wr : World) (hb : But g w wr) t (h1 : t < n) (h2 : t ≠ k) => strike_no wr c (pt k) (pt t) (by
    have hcl := block_lt_of_cell hc
    rw [World.cell?_of_block (w := w) (hb.block c hcl hgc.symm)]; exact hc) (hd t h1 h2) (by
    obtain ⟨cs, h⟩ := hf t h1
    exact ⟨cs, (hb.block _ (Array.getElem?_eq_some_iff.1 h).1 (hgp t h1)).trans h⟩) (by
    obtain ⟨cs, h⟩ := hf k hk
    exact ⟨cs, (hb.block _ (Array.getElem?_eq_some_iff.1 h).1 (hgp k hk)).trans h⟩))
  have hk1 : ((k : Int) == -1) = false := by rw [beq_eq_false_iff_ne]; omega
  clear hr hd hc hf hgp
  go_enter Try.func32, Try.ntmps32
  go_wp2_with (go_at_call 38; refine HI.out.mono ?_; rintro e w' ⟨rfl, rfl⟩)
  go_loopw [5, 6] (fun i j wr => ∃ t : Nat, k < t ∧ t ≤ n ∧ i = .int .i64 ((t - 1 : Nat) : Int) ∧ j = .int .i64 t ∧ Hid (RowIs wr g cap n (mid pt k t)) ∧ But g w' wr) (fun _ j _ => n - (intOf j).toNat)
  case atStart =>
    refine ⟨k + 1, by omega, by omega, by go_num, by go_num, ?_, But.refl _ _⟩
    obtain ⟨cur, h1, h2, h3⟩ := HR.out
    refine ⟨cur, h1, h2, fun t ht => ?_⟩
    unfold mid
    rw [if_neg (by omega)]; exact h3 t ht
  case round =>
    obtain ⟨t, hkt, htn, rfl, rfl, hRow, hBut⟩ := hrel
    by_cases hlt : t < n
    · have hx := hRow.out.cell hlt
      have hy := hRow.out.cell (t := t - 1) (by omega)
      rw [show mid pt k t t = pt t from by unfold mid; rw [if_neg (by omega)]] at hx
      obtain ⟨cur, h1, _, _⟩ := hRow.out
      have hfr := frozen_of_row wr g (t - 1) _ _ h1
      have HS1 := hid (HS.out wr hBut t hlt (by omega))
      have HN := hid (hRow.out.set hkt hnc)
      obtain ⟨r, hr⟩ : ∃ r, r = t - 1 := ⟨_, rfl⟩
      rw [← hr] at hy hfr HN ⊢
      have hr1 : r + 1 = t := by omega
      have hrn : (r : Int) < (n : Int) := by omega
      have hrn2 : r < n := by omega
      have HB := hid (hBut.setCell (p := ⟨g, r, none⟩) (.inl rfl) (.pointer (some ⟨pt t, 0, none⟩)))
      clear HS HI HR hRow h1 hr hBut
      have HT := hid hr1
      clear hr1
      generalize mid pt k t r = y at *
      generalize pt t = x at *
      go_wp2_with (go_at_call 33; refine HS1.out.mono ?_; rintro e w' ⟨rfl, rfl⟩)
      exact ⟨⟨t + 1, by omega, by omega, by rw [← HT.out]; go_num, by go_num, HN, HB.out⟩, by simp [intOf]; omega⟩
    · obtain rfl : t = n := by omega
      obtain ⟨r, hr⟩ : ∃ r, r + 1 = t := ⟨t - 1, by omega⟩
      have hx := hRow.out.cell (t := r) (by omega)
      obtain ⟨cur, h1, h2, h3⟩ := hRow.out
      have hfr := frozen_of_row wr g r _ _ h1
      have hcl : ∀ ty c2, (Builtin.clear_ #[54] ty #[.slice (some ⟨g, r, none⟩) 1 c2]).run Try.prog wr = .ok (.tuple #[]) (wr.setCell ⟨g, r, none⟩ (.pointer none)) := fun ty c2 =>
        Lib.run_clear_slice wr 54 57 ty (.pointer none) Try.underlying54 (fun w => Try.zeroValue57 w) rfl rfl g r 1 c2 (by omega) (fun j hj => by
          obtain rfl : j = 0 := by omega
          rw [Nat.add_zero, hx]; rfl) (fun j hj => by
          obtain rfl : j = 0 := by omega
          rw [Nat.add_zero]; exact hfr)
      have HE := hid (And.intro h1 (And.intro h2 h3))
      have e1 : t - 1 = r := by omega
      have e2 : t - r = 1 := by omega
      rw [e1]
      have hrt : (r : Int) ≤ (t : Int) := by omega
      have hrc : (r : Int) ≤ (cap : Int) := by omega
      have HB := hid (hBut.setCell (p := ⟨g, r, none⟩) (.inl rfl) (.pointer none))
      have HEQ := hid (And.intro e1 hr)
      have hne : ¬ (cap = r) := by omega
      clear HS HI HR hRow h1 h2 h3 hr hBut e1
      go_wp2_with fail
      go_ret
      refine ⟨by rw [HEQ.out.1]; rfl, ⟨_, setCell_head HE.out.1 _, by simp [HE.out.2.1], fun s hs => ?_⟩, HB.out⟩
      rw [Array.getElem?_setIfInBounds_ne (by have := HEQ.out; omega), HE.out.2.2 s (by omega)]
      unfold mid past
      by_cases e : s < k
      · rw [if_neg (by omega), if_pos e]
      · rw [if_pos ⟨by omega, by omega⟩, if_neg e]
end Go.Proofs.Ytlgceknfphholaa
