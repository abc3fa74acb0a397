/- A tree as the laws have it, and the function alive, by which every law begins. -/
import Derived.Test.YtlgceknfphholaaH
namespace Go.Proofs.Ytlgceknfphholaa
open Go.RowKit

/-- A tree that was made behind the world v, in the world w, with its invariant; nothing turned that was there in v. -/
structure St (N : Nat) (v w : World) (p : Nat) (l : List Fac) (nxt : Nat) : Prop where
  mem : Qt (fun x => v.heap.size ≤ x) w p l nxt
  inv : Inv N l nxt
  bel : Below v.heap.size v w

section
variable {N : Nat} {v w w' : World} {p nxt : Nat} {l : List Fac}
theorem St.below (h : St N v w p l nxt) (hb : Below w.heap.size w w') : St N v w' p l nxt := ⟨h.mem.below hb, h.inv, Below.of_below h.bel h.bel.size hb⟩
theorem St.of {l' : List Fac} {nxt' : Nat} (h : St N v w p l nxt) (hi : Inv N l' nxt') (hq : Qt (fun x => v.heap.size ≤ x) w' p l' nxt') (ht : Turn (fun x => v.heap.size ≤ x) w w') : St N v w' p l' nxt' := ⟨hq, hi, Below.of_turn h.bel h.bel.size ht (fun _ h => h)⟩

def SPost (N : Nat) (v : World) (p : Nat) (er : Value) (l' : List Fac) (nxt' : Nat) (e : Ending) (w' : World) : Prop := e = .returned er ∧ St N v w' p l' nxt'
theorem St.new (w : World) (m : Nat) (h : (m : Int) ≤ 1073741824) : Calls Try.prog 9 #[.int .i64 (m : Int)] w fun e w' => ∃ p, e = .returned (.pointer (some ⟨p, 0, none⟩)) ∧ St m w w' p [⟨0, -1, m, 0⟩] 1 :=
  (new_ok m w h).mono fun _ _ ⟨p, he, hq, hb⟩ => ⟨p, he, hq, Inv.new m (by omega), hb⟩
theorem St.carve (h : St N v w p l nxt) (hn : nxt ≤ 1073741824) (i n : Int) : Calls Try.prog 11 #[.pointer (some ⟨p, 0, none⟩), .int .i64 i, .int .i64 n] w (SPost N v p (.tuple #[.int .i64 (carveA l nxt i n).1, .int .i64 (carveA l nxt i n).2.1]) (carveA l nxt i n).2.2.1 (carveA l nxt i n).2.2.2) :=
  (carve_any h.mem h.inv (fun _ hx => Nat.le_trans h.bel.size hx) hn i n).mono fun _ _ ⟨he, hq, ht⟩ => ⟨he, h.of (h.inv.carveA i n).1 hq ht⟩
theorem St.close (h : St N v w p l nxt) (i : Int) : Calls Try.prog 12 #[.pointer (some ⟨p, 0, none⟩), .int .i64 i] w (SPost N v p (.int .i64 (closeA l i).1) (closeA l i).2 nxt) :=
  (close_any h.mem h.inv i).mono fun _ _ ⟨he, hq, ht⟩ => ⟨he, h.of (h.inv.closeA i) hq ht⟩
theorem St.charge (h : St N v w p l nxt) (i n : Int) : Calls Try.prog 13 #[.pointer (some ⟨p, 0, none⟩), .int .i64 i, .int .i64 n] w (SPost N v p (.int .i64 (chargeA l i n).1) (chargeA l i n).2 nxt) :=
  (chargeT_any h.mem h.inv i n).mono fun _ _ ⟨he, hq, ht⟩ => ⟨he, h.of (h.inv.chargeA i n) hq ht⟩
theorem St.refund (h : St N v w p l nxt) (i n : Int) : Calls Try.prog 14 #[.pointer (some ⟨p, 0, none⟩), .int .i64 i, .int .i64 n] w (SPost N v p (.int .i64 (refundA l i n).1) (refundA l i n).2 nxt) :=
  (refundT_any h.mem h.inv i n).mono fun _ _ ⟨he, hq, ht⟩ => ⟨he, h.of (h.inv.refundA i n) hq ht⟩
theorem St.limit (h : St N v w p l nxt) (i : Int) : Calls Try.prog 15 #[.pointer (some ⟨p, 0, none⟩), .int .i64 i] w fun e w' => e = .returned (.int .i64 (limA l i)) ∧ w' = w := by
  obtain ⟨a, cap, fb, hq, _⟩ := h.mem
  exact limit_any hq h.inv.few i
theorem St.charged (h : St N v w p l nxt) (i : Int) : Calls Try.prog 17 #[.pointer (some ⟨p, 0, none⟩), .int .i64 i] w fun e w' => e = .returned (.int .i64 (chgA l i)) ∧ w' = w := by
  obtain ⟨a, cap, fb, hq, _⟩ := h.mem
  exact charged_any hq h.inv.few i
theorem St.parent (h : St N v w p l nxt) (i : Int) : Calls Try.prog 18 #[.pointer (some ⟨p, 0, none⟩), .int .i64 i] w fun e w' => e = .returned (.int .i64 (parA l i)) ∧ w' = w := by
  obtain ⟨a, cap, fb, hq, _⟩ := h.mem
  exact parent_any hq h.inv.few i
theorem St.use (h : St N v w p l nxt) (i : Int) : Calls Try.prog 16 #[.pointer (some ⟨p, 0, none⟩), .int .i64 i] w (UsePost (useA l i) w) := by
  obtain ⟨a, cap, fb, hq, _⟩ := h.mem
  exact useT_any hq h.inv i
theorem St.ids (h : St N v w p l nxt) : Calls Try.prog 19 #[.pointer (some ⟨p, 0, none⟩)] w (RowPost (l.map Fac.id) w) := by
  obtain ⟨a, cap, fb, hq, _⟩ := h.mem
  exact ids_any hq h.inv.few
end

def l0 : List Fac := [⟨0, -1, 1000, 0⟩]
def l1 : List Fac := [⟨0, -1, 1000, 0⟩, ⟨1, 0, 600, 0⟩]
def l2 : List Fac := [⟨0, -1, 1000, 0⟩, ⟨1, 0, 600, 600⟩]
theorem e1 : carveA l0 1 0 600 = (1, 0, l1, 2) := by rfl
theorem e2 : carveA l1 2 0 500 = (0, 5, l1, 2) := by rfl
theorem e3 : chargeA l1 1 600 = (0, l2) := by rfl
theorem e4 : chargeA l2 1 1 = (5, l2) := by rfl
theorem e5 : closeA l2 1 = (12, l2) := by rfl
theorem e6 : refundA l2 1 600 = (0, l1) := by rfl
theorem e7 : closeA l1 1 = (0, l0) := by rfl
theorem e8 : useA l2 0 = 600 := by rfl
theorem e9 : useA l0 0 = 0 := by rfl
theorem e10 : limA l0 0 = 1000 := by rfl
theorem e11 : parA l0 0 = -1 := by rfl

set_option maxHeartbeats 2000000 in
theorem alive_true (w : World) : Calls Try.prog 8 #[] w fun e w' => e = .returned (.bool true) ∧ Below w.heap.size w w' := by
  go_enter Try.func8, Try.ntmps8
  go_wp2_with fail
  refine (St.new w 1000 (by omega)).mono ?_
  rintro e w1 ⟨p, rfl, h1⟩
  change St 1000 w w1 p l0 1 at h1
  go_wp2_with fail
  have c := h1.carve (by omega) 0 600
  rw [e1] at c
  refine c.mono ?_
  rintro e w2 ⟨rfl, h2⟩
  clear c h1
  go_wp2_with fail
  have c := h2.carve (by omega) 0 500
  rw [e2] at c
  refine c.mono ?_
  rintro e w3 ⟨rfl, h3⟩
  clear c h2
  go_wp2_with fail
  have c := h3.charge 1 600
  rw [e3] at c
  refine c.mono ?_
  rintro e w4 ⟨rfl, h4⟩
  clear c h3
  go_wp2_with fail
  have c := h4.use 0
  rw [e8] at c
  refine c.mono ?_
  rintro e w5 ⟨rfl, hb5⟩
  have h5 := h4.below hb5
  clear c h4 hb5
  go_wp2_with fail
  have c := h5.charge 1 1
  rw [e4] at c
  refine c.mono ?_
  rintro e w6 ⟨rfl, h6⟩
  clear c h5
  go_wp2_with fail
  have c := h6.close 1
  rw [e5] at c
  refine c.mono ?_
  rintro e w7 ⟨rfl, h7⟩
  clear c h6
  go_wp2_with fail
  have c := h7.refund 1 600
  rw [e6] at c
  refine c.mono ?_
  rintro e w8 ⟨rfl, h8⟩
  clear c h7
  go_wp2_with fail
  have c := h8.close 1
  rw [e7] at c
  refine c.mono ?_
  rintro e w9 ⟨rfl, h9⟩
  clear c h8
  go_wp2_with fail
  have c := h9.use 0
  rw [e9] at c
  refine c.mono ?_
  rintro e w10 ⟨rfl, hb10⟩
  have h10 := h9.below hb10
  clear c h9 hb10
  go_wp2_with fail
  have c := h10.limit 0
  rw [e10] at c
  refine c.mono ?_
  rintro e w11 ⟨rfl, rfl⟩
  clear c
  go_wp2_with fail
  have c := h10.parent 0
  rw [e11] at c
  refine c.mono ?_
  rintro e w12 ⟨rfl, rfl⟩
  clear c
  go_wp2_with fail
  refine h10.ids.mono ?_
  rintro e w13 ⟨v, rfl, ho, hb13⟩
  have h13 := h10.below hb13
  obtain ⟨av, cv, rfl, _⟩ := row_cells ho
  change Hid _ at ho
  clear ho h10 hb13
  go_wp2_with (go_at_call 9; refine (new_bad (-1) _ (.inl (by omega))).mono ?_; rintro e w' ⟨rfl, rfl⟩)
  go_ret
  exact ⟨rfl, h13.bel⟩
end Go.Proofs.Ytlgceknfphholaa
