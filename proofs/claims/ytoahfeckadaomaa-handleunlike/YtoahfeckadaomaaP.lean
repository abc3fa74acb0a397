/- A table as the laws have it, and the function alive, by which every law begins. -/
import Derived.Test.YtoahfeckadaomaaO
namespace Go.Proofs.Ytoahfeckadaomaa
open Go.RowKit

/-- A table that was made behind the world v, in the world w; nothing turned that was there in v. -/
structure Ht (v w : World) (b : Nat) (T : Nat → Pl) : Prop where
  tb : Tb w b T
  wf : Wf T
  bel : Below v.heap.size v w
  le : v.heap.size ≤ b
section
variable {v w w' : World} {b : Nat} {T : Nat → Pl}
theorem Ht.below (h : Ht v w b T) (hb : Below w.heap.size w w') : Ht v w' b T := ⟨h.tb.below hb, h.wf, Below.of_below h.bel h.bel.size hb, h.le⟩
theorem Ht.alloc (h : Ht v w b T) (o : Obj) : Ht v (w.alloc o) b T := h.below ((Below.refl _ w).alloc (Nat.le_refl _) _)
theorem Ht.but {T' : Nat → Pl} (h : Ht v w b T) (ht : Tb w' b T') (hw : Wf T') (hb : But b w w') : Ht v w' b T' := ⟨ht, hw, Below.of_but h.bel h.bel.size hb h.le, h.le⟩
def HPost (v w : World) (b : Nat) (r : Value) (T' : Nat → Pl) (e : Ending) (w' : World) : Prop := e = .returned r ∧ Ht v w' b T' ∧ But b w w'
theorem Ht.new (w : World) : Calls Try.prog 17 #[] w fun e w' => e = .returned (.pointer (some ⟨w.heap.size, 0, none⟩)) ∧ Ht w w' w.heap.size T0 :=
  (new_any w).mono fun _ _ ⟨he, ht, hb⟩ => ⟨he, ht, Wf.new, hb, Nat.le_refl _⟩
theorem Wf.putA (h : Wf T) (n : Nat) (o : Ob) : Wf (putA T n o).2.2 := by
  unfold Ytoahfeckadaomaa.putA
  by_cases e : n < 256
  · rw [if_pos e]; exact h.put e o
  · rw [if_neg e]; exact h
theorem Wf.killA (h : Wf T) (x : Nat) : Wf (killA T x).2 := by
  unfold Ytoahfeckadaomaa.killA
  by_cases e : isB T x 1 = true
  · rw [if_pos e]; exact h.kill (Nat.mod_lt _ (by decide))
  · rw [if_neg e]; exact h
theorem Wf.freeA (h : Wf T) (x : Nat) : Wf (freeA T x).2.2 := by
  unfold Ytoahfeckadaomaa.freeA
  by_cases e : isB T x 2 = true
  · rw [if_pos e]; exact h.free (Nat.mod_lt _ (by decide))
  · rw [if_neg e]; exact h
theorem Ht.put (h : Ht v w b T) (n : Nat) (hn : First T n) (o : Ob) : Calls Try.prog 8 #[.pointer (some ⟨b, 0, none⟩), obv o] w (HPost v w b (.tuple #[.int .u32 ((putA T n o).1 : Int), .int .i64 (putA T n o).2.1]) (putA T n o).2.2) :=
  (put_any h.tb h.wf n hn o).mono fun _ _ ⟨he, ht, hb⟩ => ⟨he, h.but ht (h.wf.putA n o) hb, hb⟩
theorem Ht.get (h : Ht v w b T) (x : Nat) (hx : x < 4294967296) : Calls Try.prog 9 #[.pointer (some ⟨b, 0, none⟩), .int .u32 (x : Int)] w (ObPost w (getA T x).1 (getA T x).2) := get_any h.tb x hx
theorem Ht.peek (h : Ht v w b T) (x : Nat) (hx : x < 4294967296) : Calls Try.prog 11 #[.pointer (some ⟨b, 0, none⟩), .int .u32 (x : Int)] w (ObPost w (peekA T x).1 (peekA T x).2) := peek_any h.tb x hx
theorem Ht.kill (h : Ht v w b T) (x : Nat) (hx : x < 4294967296) : Calls Try.prog 13 #[.pointer (some ⟨b, 0, none⟩), .int .u32 (x : Int)] w (HPost v w b (.int .i64 (killA T x).1) (killA T x).2) :=
  (kill_any h.tb x hx).mono fun _ _ ⟨he, ht, hb⟩ => ⟨he, h.but ht (h.wf.killA x) hb, hb⟩
theorem Ht.free (h : Ht v w b T) (x : Nat) (hx : x < 4294967296) : Calls Try.prog 10 #[.pointer (some ⟨b, 0, none⟩), .int .u32 (x : Int)] w (HPost v w b (.tuple #[obv (freeA T x).1, .int .i64 (freeA T x).2.1]) (freeA T x).2.2) :=
  (free_any h.tb h.wf x hx).mono fun _ _ ⟨he, ht, hb⟩ => ⟨he, h.but ht (h.wf.freeA x) hb, hb⟩
theorem Ht.age (h : Ht v w b T) (p a : Nat) (hp : p < 256) (ha : a ≤ 1048575) (hs : (T p).st = 0) : Calls Try.prog 16 #[.pointer (some ⟨b, 0, none⟩), .int .i64 (p : Int), .int .i64 (a : Int)] w (HPost v w b (.bool true) (ageT T p a)) :=
  (age_ok h.tb p a hp ha hs).mono fun _ _ ⟨he, ht, hb⟩ => ⟨he, h.but ht (h.wf.age p ha) hb, hb⟩
/-- How many are answered. -/
def LenPost (w : World) (n : Nat) (e : Ending) (w' : World) : Prop := ∃ a cap, e = .returned (.slice a n cap) ∧ Below w.heap.size w w'
theorem Ht.live (h : Ht v w b T) : Calls Try.prog 14 #[.pointer (some ⟨b, 0, none⟩)] w (LenPost w (cn T 1 256)) :=
  (live_any h.tb h.wf).mono fun _ _ ⟨v, he, hr, hb⟩ => by
    obtain ⟨a, cap, e, _⟩ := row_cells hr
    exact ⟨a, cap, by rw [he, e]; rfl, hb⟩
theorem Ht.zombies (h : Ht v w b T) : Calls Try.prog 15 #[.pointer (some ⟨b, 0, none⟩)] w (LenPost w (cn T 2 256)) :=
  (zombies_any h.tb h.wf).mono fun _ _ ⟨v, he, hr, hb⟩ => by
    obtain ⟨a, cap, e, _⟩ := row_cells hr
    exact ⟨a, cap, by rw [he, e]; rfl, hb⟩
theorem Ht.room (h : Ht v w b T) : Calls Try.prog 12 #[.pointer (some ⟨b, 0, none⟩)] w fun e w' => e = .returned (.int .i64 (cn T 0 256 : Nat)) ∧ Below w.heap.size w w' := room_any h.tb
end

def o1 : Ob := ⟨4, 64, 0⟩
def T1 : Nat → Pl := putT T0 0 o1
def T2 : Nat → Pl := killT T1 0
def T3 : Nat → Pl := freeT T2 0
def T4 : Nat → Pl := putT T3 0 o1
theorem e1 : putA T0 0 o1 = (0, 0, T1) := by rfl
theorem e2 : getA T1 0 = (o1, 0) := by rfl
theorem e3 : killA T1 0 = (0, T2) := by rfl
theorem e4 : getA T2 0 = (noOb, 8) := by rfl
theorem e5 : freeA T2 0 = (o1, 0, T3) := by rfl
theorem e6 : putA T3 0 o1 = (256, 0, T4) := by rfl
theorem e7 : getA T4 0 = (noOb, 8) := by rfl
theorem e8 : cn T4 1 256 = 1 := by decide +kernel
theorem e9 : cn T4 2 256 = 0 := by decide +kernel
theorem f0 : First T0 0 := ⟨by decide, fun _ => rfl, fun j hj => by omega⟩
theorem f3 : First T3 0 := ⟨by decide, fun _ => rfl, fun j hj => by omega⟩
theorem But.keep {b g : Nat} {w w' : World} {o : Obj} (h : But b w w') (hg : w.heap[g]? = some o) (hn : g ≠ b) : w'.heap[g]? = some o := (h.block g (lt_of hg) hn).trans hg
theorem bel_keep {g : Nat} {w w' : World} {o : Obj} (h : Below w.heap.size w w') (hg : w.heap[g]? = some o) : w'.heap[g]? = some o := (h.block g (lt_of hg)).trans hg
theorem alloc_keep {g : Nat} {w : World} {o : Obj} (o' : Obj) (hg : w.heap[g]? = some o) : (w.alloc o').heap[g]? = some o := (Below.heap_alloc _ _ _ (lt_of hg)).trans hg

set_option maxRecDepth 100000 in
set_option maxHeartbeats 4000000 in
theorem alive_true (w : World) : Calls Try.prog 7 #[] w fun e w' => e = .returned (.bool true) ∧ Below w.heap.size w w' := by
  go_enter Try.func7, Try.ntmps7
  go_wp2_with fail
  refine (Ht.new w).mono ?_
  rintro e w1 ⟨rfl, h1⟩
  go_wp2_with fail
  have hp := (h1.alloc (.cells #[.int .i64 4, .int .i64 64, .int .i64 0] 31)).put 0 f0 o1
  rw [e1] at hp
  have ho1 : (w1.alloc (.cells #[.int .i64 4, .int .i64 64, .int .i64 0] 31)).heap[w1.heap.size]? = some (.cells #[.int .i64 4, .int .i64 64, .int .i64 0] 31) := heap_alloc_new _ _
  have hne1 : w1.heap.size ≠ w.heap.size := by have := h1.tb.lt; omega
  have HO := hid ho1
  clear ho1
  have H1 := hid h1
  clear h1
  refine hp.mono ?_
  rintro e w2 ⟨rfl, h2, hB2⟩
  have o2 := hB2.keep HO.out hne1
  have hs2 : w1.heap.size < w2.heap.size := lt_of o2
  have c := h2.get 0 (by omega)
  rw [e2] at c
  have H2 := hid (And.intro o2 h2)
  clear hp hB2 o2 h2
  go_wp2_with fail
  refine c.mono ?_
  rintro e w3 ⟨rfl, hb3⟩
  have h3 := H2.out.2.below hb3
  have o3 := bel_keep hb3 H2.out.1
  have hs3 : w1.heap.size < w3.heap.size := lt_of o3
  have h3a := h3.alloc (.cells #[.int .i64 4, .int .i64 64, .int .i64 0] 31)
  have o3a := alloc_keep (.cells #[.int .i64 4, .int .i64 64, .int .i64 0] 31) o3
  have p3a := heap_alloc_new w3 (.cells #[.int .i64 4, .int .i64 64, .int .i64 0] 31)
  have hne3 : w3.heap.size ≠ w.heap.size := by have := h3.tb.lt; omega
  have c' := h3a.kill 0 (by omega)
  rw [e3] at c'
  have H3 := hid (And.intro o3a p3a)
  unfold obv o1
  clear c H2 hb3 h3 o3 h3a o3a p3a
  go_wp2_with fail
  refine c'.mono ?_
  rintro e w4 ⟨rfl, h4, hB4⟩
  have o4 := hB4.keep H3.out.1 hne1
  have p4 := hB4.keep H3.out.2 hne3
  have c := h4.get 0 (by omega)
  rw [e4] at c
  have H4 := hid (And.intro o4 (And.intro p4 h4))
  clear c' hB4 o4 p4 h4 H3
  go_wp2_with fail
  refine c.mono ?_
  rintro e w5 ⟨rfl, hb5⟩
  have h5 := (H4.out.2.2.below hb5).alloc (.cells #[.int .i64 0, .int .i64 0, .int .i64 0] 31)
  have o5 := alloc_keep (.cells #[.int .i64 0, .int .i64 0, .int .i64 0] 31) (bel_keep hb5 H4.out.1)
  have p5 := alloc_keep (.cells #[.int .i64 0, .int .i64 0, .int .i64 0] 31) (bel_keep hb5 H4.out.2.1)
  have c' := h5.free 0 (by omega)
  rw [e5] at c'
  have H5 := hid (And.intro o5 p5)
  unfold obv noOb
  clear c H4 hb5 h5 o5 p5
  go_wp2_with fail
  refine c'.mono ?_
  rintro e w6 ⟨rfl, h6, hB6⟩
  have o6 := hB6.keep H5.out.1 hne1
  have p6 := hB6.keep H5.out.2 hne3
  have hne6 : w6.heap.size ≠ w.heap.size := by have := h6.tb.lt; omega
  have q6a := heap_alloc_new w6 (.cells #[.int .i64 4, .int .i64 64, .int .i64 0] 31)
  have o6a := alloc_keep (.cells #[.int .i64 4, .int .i64 64, .int .i64 0] 31) o6
  have p6a := alloc_keep (.cells #[.int .i64 4, .int .i64 64, .int .i64 0] 31) p6
  have hs6 : w1.heap.size < w6.heap.size := lt_of o6
  have c := (h6.alloc (.cells #[.int .i64 4, .int .i64 64, .int .i64 0] 31)).put 0 f3 o1
  rw [e6] at c
  obtain ⟨⟨k0, k1, k2⟩, _⟩ := row3 o6
  have H6 := hid (And.intro o6a (And.intro p6a q6a))
  unfold obv o1
  clear c' hB6 h6 o6 p6 H5 q6a o6a p6a
  go_wp2_with fail
  refine c.mono ?_
  rintro e w7 ⟨rfl, h7, hB7⟩
  have o7 := hB7.keep H6.out.1 hne1
  have p7 := hB7.keep H6.out.2.1 hne3
  have q7 := hB7.keep H6.out.2.2 hne6
  have c' := h7.get 0 (by omega)
  rw [e7] at c'
  have H7 := hid (And.intro o7 (And.intro p7 (And.intro q7 h7)))
  clear c hB7 o7 p7 q7 h7 H6 k0 k1 k2
  go_wp2_with fail
  refine c'.mono ?_
  rintro e w8 ⟨rfl, hb8⟩
  have o8 := bel_keep hb8 H7.out.1
  have p8 := bel_keep hb8 H7.out.2.1
  have q8 := bel_keep hb8 H7.out.2.2.1
  have l1 := lt_of o8
  have l2 := lt_of p8
  have l3 := lt_of q8
  obtain ⟨⟨k0, k1, k2⟩, _⟩ := row3 o8
  obtain ⟨⟨m0, m1, m2⟩, _⟩ := row3 p8
  obtain ⟨⟨n0, n1, n2⟩, _⟩ := row3 q8
  have h8 := (H7.out.2.2.2.below hb8).alloc (.cells #[.int .i64 0, .int .i64 0, .int .i64 0] 31)
  have H8 := hid h8
  unfold obv noOb
  clear c' hb8 o8 p8 q8 H7 h8
  go_wp2_with fail
  have c := H8.out.live
  rw [e8] at c
  refine c.mono ?_
  rintro e w9 ⟨a9, cap9, rfl, hb9⟩
  have H9 := hid (H8.out.below hb9)
  clear c hb9 k0 k1 k2 m0 m1 m2 n0 n1 n2
  go_wp2_with fail
  have c := H9.out.zombies
  rw [e9] at c
  refine c.mono ?_
  rintro e w10 ⟨a10, cap10, rfl, hb10⟩
  have H10 := hid (H9.out.below hb10)
  clear c hb10
  go_wp2_with fail
  have c := H10.out.age 3 9 (by decide) (by decide) rfl
  refine c.mono ?_
  rintro e w11 ⟨rfl, h11, hB11⟩
  have H11 := hid h11
  clear c hB11 h11
  go_wp2_with fail
  go_ret
  exact ⟨rfl, H11.out.bel⟩
end Go.Proofs.Ytoahfeckadaomaa
