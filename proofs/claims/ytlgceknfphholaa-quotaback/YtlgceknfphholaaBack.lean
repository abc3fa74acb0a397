/- For every limit, every list of acts, every number and every n: what is charged and refunded, and what is carved and closed, leaves all uses as they were: QuotaBack returns true. Conditions: none. -/
import Derived.Test.YtlgceknfphholaaK
import Derived.Test.YtlgceknfphholaaRows
import Derived.Deep.CutRange
namespace Go.Proofs.Ytlgceknfphholaa.quotaBack
open Go.ChangeShapes Go.WideShapes Go.ChangeAt Go.RowKit Go.Proofs.Ytlgceknfphholaa

theorem the_setC {l : List Fac} {i : Int} {f : Fac} (c : Nat) (h : the l i = some f) : the (setC l i c) i = some { f with chg := c } := by
  unfold the setC at *
  rw [List.find?_map]
  have e : ((fun f : Fac => decide ((f.id : Int) = i)) ∘ fun f => if (f.id : Int) = i then { f with chg := c } else f) = fun f => decide ((f.id : Int) = i) := by
    funext g
    simp only [Function.comp]
    split <;> rfl
  rw [e, h]
  have := (the_some (l := l) (i := i) (f := f) h).2
  show some (if (f.id : Int) = i then { f with chg := c } else f) = _
  rw [if_pos this]
/-- Charged and refunded. -/
theorem charge_back {N nxt : Nat} {l : List Fac} (h : Inv N l nxt) (i n : Int) : ((chargeA l i n).1 = 0 ∧ refundA (chargeA l i n).2 i n = (0, l)) ∨ (((chargeA l i n).1 == 0) = false ∧ (chargeA l i n).2 = l) := by
  unfold chargeA
  cases hi : the l i with
  | none => exact .inr ⟨rfl, rfl⟩
  | some f =>
    simp only
    by_cases h1 : n < 0
    · rw [if_pos h1]; exact .inr ⟨rfl, rfl⟩
    rw [if_neg h1]
    by_cases h2 : (f.lim : Int) - (useOf l f : Int) < n
    · rw [if_pos h2]; exact .inr ⟨rfl, rfl⟩
    rw [if_neg h2]
    refine .inl ⟨rfl, ?_⟩
    obtain ⟨hm, he⟩ := the_some hi
    unfold refundA
    rw [the_setC _ hi]
    simp only
    rw [if_neg (by simp; omega), setC_setC, show f.chg + n.toNat - n.toNat = f.chg from by omega]
    have := setC_self h.up hm
    rw [he] at this
    rw [this]
/-- Carved and closed. -/
theorem carve_back {N nxt : Nat} {l : List Fac} (h : Inv N l nxt) (i n : Int) : ((carveA l nxt i n).2.1 = 0 ∧ (carveA l nxt i n).1 = (nxt : Int) ∧ useA (carveA l nxt i n).2.2.1 (nxt : Int) = 0 ∧ closeA (carveA l nxt i n).2.2.1 (nxt : Int) = (0, l)) ∨ (((carveA l nxt i n).2.1 == 0) = false ∧ (carveA l nxt i n).2.2.1 = l) := by
  have hI := h.carveA i n
  unfold carveA at hI ⊢
  cases hi : the l i with
  | none => exact .inr ⟨rfl, rfl⟩
  | some f =>
    rw [hi] at hI
    simp only at hI ⊢
    by_cases h1 : n < 0
    · rw [if_pos h1]; exact .inr ⟨rfl, rfl⟩
    rw [if_neg h1] at hI ⊢
    by_cases h2 : (f.lim : Int) - (useOf l f : Int) < n
    · rw [if_pos h2]; exact .inr ⟨rfl, rfl⟩
    rw [if_neg h2] at hI ⊢
    by_cases h3 : 32 ≤ l.length
    · rw [if_pos h3]; exact .inr ⟨rfl, rfl⟩
    rw [if_neg h3] at hI ⊢
    simp only at hI ⊢
    obtain ⟨hm, he⟩ := the_some hi
    have hlow := h.low f hm
    have hthe : the (l ++ [⟨nxt, i, n.toNat, 0⟩]) (nxt : Int) = some ⟨nxt, i, n.toNat, 0⟩ := the_mem hI.1.up (f := ⟨nxt, i, n.toNat, 0⟩) (List.mem_append.2 (.inr (List.mem_singleton.2 rfl)))
    have hk : kids (l ++ [⟨nxt, i, n.toNat, 0⟩]) (nxt : Int) = [] := by
      refine kids_none (fun g hg e => ?_)
      rcases List.mem_append.1 hg with hg | hg
      · rcases h.par g hg with ⟨_, e2⟩ | ⟨_, g2, hg2, e2⟩
        · omega
        · have := h.low g2 hg2; omega
      · rw [List.mem_singleton] at hg; subst hg
        have e : i = (nxt : Int) := e
        omega
    have hu : useOf (l ++ [⟨nxt, i, n.toNat, 0⟩]) ⟨nxt, i, n.toNat, 0⟩ = 0 := by
      unfold useOf
      show 0 + (kids _ (nxt : Int)).sum = 0
      rw [hk]; rfl
    refine .inl ⟨by first | rfl | trivial, by first | rfl | trivial, ?_, ?_⟩
    · unfold useA; rw [hthe]; show ((useOf _ _ : Nat) : Int) = 0; rw [hu]; rfl
    · unfold closeA; rw [hthe]
      simp only
      rw [if_neg (by omega), if_neg (by rw [hk, hu]; simp)]
      congr 1
      unfold del
      rw [List.filter_append, List.filter_eq_self.2 (fun g hg => by have := h.low g hg; simp; omega)]
      simp

theorem core_long (m : Nat) (a : Option Addr) (len cap : Nat) (ii nn : Int) (w : World) (hl : (100 : Int) < (len : Int)) :
    Calls Try.prog 7 #[.int .u16 (m : Int), .slice a len cap, .int .i64 ii, .int .i64 nn] w fun e w' => e = .returned (.bool true) ∧ Below w.heap.size w w' := by
  go_enter Try.func7, Try.ntmps7
  go_wp2_with fail
  refine (alive_true _).mono ?_
  rintro e w1 ⟨rfl, hb1⟩
  go_wp2_with fail
  go_ret
  exact ⟨rfl, hb1⟩

/-- The uses of all. -/
def uses (l : List Fac) : List Nat := l.map (useOf l)
theorem uses_next {l : List Fac} {t : Nat} {f : Fac} (h : l[t]? = some f) : (uses l).take (t + 1) = (uses l).take t ++ [useOf l f] := by
  rw [List.take_add_one]
  congr 1
  unfold uses
  rw [List.getElem?_map, h]; rfl
theorem uses_get {l : List Fac} {t : Nat} {f : Fac} (h : l[t]? = some f) : (nats (uses l))[t]? = some (Value.int .i64 (useOf l f : Int)) := by
  unfold nats uses
  rw [List.getElem?_map, List.getElem?_map, h]; rfl
theorem uses_len (l : List Fac) : (uses l).length = l.length := by simp [uses]

/-- What stands behind the acts: the tree, and both lists beside it. -/
structure Kept (N : Nat) (v w : World) (p : Nat) (l : List Fac) (nxt g1 g2 : Nat) : Prop where
  mem : Qt (fun x => v.heap.size ≤ x ∧ x ≠ g1 ∧ x ≠ g2) w p l nxt
  inv : Inv N l nxt
  bel : Below v.heap.size v w
  c1 : ∀ (t : Nat) (f : Fac), l[t]? = some f → w.cell? ⟨g1, t, none⟩ = some (.int .i64 (f.id : Int))
  c2 : ∀ (t : Nat) (f : Fac), l[t]? = some f → w.cell? ⟨g2, t, none⟩ = some (.int .i64 (useOf l f : Int))
  l1 : g1 < w.heap.size
  l2 : g2 < w.heap.size

section
variable {N : Nat} {v w w' : World} {p nxt g1 g2 : Nat} {l : List Fac}
theorem Kept.below (h : Kept N v w p l nxt g1 g2) (hb : Below w.heap.size w w') : Kept N v w' p l nxt g1 g2 :=
  ⟨h.mem.below hb, h.inv, Below.of_below h.bel h.bel.size hb, fun t f hf => (hb.cell (p := ⟨g1, t, none⟩) h.l1).trans (h.c1 t f hf), fun t f hf => (hb.cell (p := ⟨g2, t, none⟩) h.l2).trans (h.c2 t f hf), Nat.lt_of_lt_of_le h.l1 hb.size, Nat.lt_of_lt_of_le h.l2 hb.size⟩
theorem Kept.drew (h : Kept N v w p l nxt g1 g2) : Kept N v w.drew p l nxt g1 g2 := h.below ⟨rfl, rfl, rfl, Nat.le_refl _, fun _ _ => rfl⟩
/-- Behind a call that turned nothing but the tree. -/
structure Held (v w : World) (g1 g2 : Nat) (l : List Fac) : Prop where
  bel : Below v.heap.size v w
  c1 : ∀ (t : Nat) (f : Fac), l[t]? = some f → w.cell? ⟨g1, t, none⟩ = some (.int .i64 (f.id : Int))
  c2 : ∀ (t : Nat) (f : Fac), l[t]? = some f → w.cell? ⟨g2, t, none⟩ = some (.int .i64 (useOf l f : Int))
  l1 : g1 < w.heap.size
  l2 : g2 < w.heap.size
theorem Kept.held (h : Kept N v w p l nxt g1 g2) : Held v w g1 g2 l := ⟨h.bel, h.c1, h.c2, h.l1, h.l2⟩
theorem Held.turn (h : Held v w g1 g2 l) (ht : Turn (fun x => v.heap.size ≤ x ∧ x ≠ g1 ∧ x ≠ g2) w w') : Held v w' g1 g2 l :=
  ⟨Below.of_turn h.bel h.bel.size ht (fun _ hx => hx.1), fun t f hf => (World.cell?_of_block (w := w) (ht.block g1 h.l1 (fun hx => hx.2.1 rfl))).trans (h.c1 t f hf), fun t f hf => (World.cell?_of_block (w := w) (ht.block g2 h.l2 (fun hx => hx.2.2 rfl))).trans (h.c2 t f hf), Nat.lt_of_lt_of_le h.l1 ht.size, Nat.lt_of_lt_of_le h.l2 ht.size⟩
theorem Held.below (h : Held v w g1 g2 l) (hb : Below w.heap.size w w') : Held v w' g1 g2 l := h.turn (Turn.of_below hb)
theorem Held.kept (h : Held v w g1 g2 l) (hq : Qt (fun x => v.heap.size ≤ x ∧ x ≠ g1 ∧ x ≠ g2) w p l nxt) (hi : Inv N l nxt) : Kept N v w p l nxt g1 g2 := ⟨hq, hi, h.bel, h.c1, h.c2, h.l1, h.l2⟩
theorem Held.new (h : Held v w g1 g2 l) : ∀ x, w.heap.size ≤ x → v.heap.size ≤ x ∧ x ≠ g1 ∧ x ≠ g2 := fun x hx => ⟨Nat.le_trans h.bel.size hx, by have := h.l1; omega, by have := h.l2; omega⟩
theorem Kept.use (h : Kept N v w p l nxt g1 g2) (i : Int) : Calls Try.prog 16 #[.pointer (some ⟨p, 0, none⟩), .int .i64 i] w (UsePost (useA l i) w) := by
  obtain ⟨a, cap, fb, hq, _⟩ := h.mem
  exact useT_any hq h.inv i
theorem Kept.ids (h : Kept N v w p l nxt g1 g2) : Calls Try.prog 19 #[.pointer (some ⟨p, 0, none⟩)] w (RowPost (l.map Fac.id) w) := by
  obtain ⟨a, cap, fb, hq, _⟩ := h.mem
  exact ids_any hq h.inv.few
end

set_option maxRecDepth 100000 in
set_option maxHeartbeats 2000000 in
theorem core (n : Nat) (a : Option Addr) (len cap : Nat) (ii nn : Int) (w : World) (hA : Acts w w.heap.size a len) (h : (n : Int) ≤ 65535) (hl : (len : Int) ≤ 100) :
    Calls Try.prog 7 #[.int .u16 (n : Int), .slice a len cap, .int .i64 ii, .int .i64 nn] w fun e w' => e = .returned (.bool true) ∧ Below w.heap.size w w' := by
  have HA := hid hA
  have hdl : decide ((100 : Int) < (len : Int)) = false := decide_eq_false (by omega)
  clear hA
  go_enter Try.func7, Try.ntmps7
  go_wp2_with fail
  refine (alive_true _).mono ?_
  rintro e w1 ⟨rfl, hb1⟩
  have HB1 := hid hb1
  clear hb1
  go_wp2_with fail
  refine (St.new w1 n (by omega)).mono ?_
  rintro e w2 ⟨p, rfl, h2⟩
  have H2 := hid h2
  clear h2
  go_wp2_with fail
  go_loopw [10] (fun t wr => ∃ j : Nat, j ≤ len ∧ t = .int .i64 (j : Int) ∧ ∃ l nxt, nxt ≤ j + 1 ∧ Hid (St n w1 wr p l nxt)) (fun t _ => len - (intOf t).toNat)
  case atStart => exact ⟨0, Nat.zero_le _, rfl, _, 1, Nat.le_refl _, H2⟩
  case round =>
    obtain ⟨j, hj, rfl, l, nxt, hnx, hS⟩ := hrel
    clear H2
    by_cases hlt : j < len
    · have hX := hid (Below.of_below HB1.out HB1.out.size hS.out.bel)
      obtain ⟨s, o, x, rfl, hx, hs⟩ := HA.out.at hX.out hlt
      obtain ⟨kd, xi, xn⟩ := x
      have c0 : wr.cell? ⟨s, o + j * 3, none⟩ = some (.int .i64 kd) := hx.c0
      have c1 : wr.cell? ⟨s, o + j * 3 + 1, none⟩ = some (.int .i64 xi) := hx.c1
      have c2 : wr.cell? ⟨s, o + j * 3 + 2, none⟩ = some (.int .i64 xn) := hx.c2
      have hnx2 : nxt ≤ 1073741824 := by omega
      have hj0 : (0 : Int) ≤ (j : Int) := by omega
      have hj1 : (j : Int) < (len : Int) := by omega
      have HC : Hid (∀ wx : World, Below w1.heap.size w1 wx → wx.cell? ⟨s, o + j * 3 + 1, none⟩ = some (.int .i64 xi) ∧ wx.cell? ⟨s, o + j * 3 + 2, none⟩ = some (.int .i64 xn)) := fun wx hwx => by
        have hb := Below.of_below HB1.out HB1.out.size hS.out.bel
        have hb2 := Below.of_below HB1.out HB1.out.size hwx
        exact ⟨((hb2.cell (p := ⟨s, o + j * 3 + 1, none⟩) hs).trans (hb.cell (p := ⟨s, o + j * 3 + 1, none⟩) hs).symm).trans hx.c1, ((hb2.cell (p := ⟨s, o + j * 3 + 2, none⟩) hs).trans (hb.cell (p := ⟨s, o + j * 3 + 2, none⟩) hs).symm).trans hx.c2⟩
      have hSd : St n w1 wr.drew p l nxt := hS.out.below ⟨rfl, rfl, rfl, Nat.le_refl _, fun _ _ => rfl⟩
      clear hx hX
      by_cases q0 : kd = 0
      · subst q0
        have HV := hid (hSd.carve hnx2 xi xn)
        have h3b := (hS.out.inv.carveA xi xn).2
        clear hSd
        go_wp2_with fail
        go_region_held3 (fun wx => wx.cell? ⟨s, o + j * 3 + 1, none⟩ = some (.int .i64 xi) ∧ wx.cell? ⟨s, o + j * 3 + 2, none⟩ = some (.int .i64 xn)) (first | exact ⟨m1, m2⟩ | exact ⟨c1, c2⟩)
          ((go_at_call 11; refine HV.out.mono ?_; rintro e w3 ⟨rfl, h3⟩; obtain ⟨m1, m2⟩ := HC.out w3 h3.bel; have H3 := hid h3; clear h3))
        go_wp2_with fail
        exact ⟨⟨j + 1, by omega, by go_num, _, _, by omega, H3⟩, by simp [intOf]; omega⟩
      have q0' : (kd == 0) = false := by rw [beq_eq_false_iff_ne]; exact q0
      by_cases q1 : kd = 1
      · subst q1
        clear hSd
        go_wp2_with fail
        refine (hS.out.close xi).mono ?_
        rintro e w3 ⟨rfl, h3⟩
        have H3 := hid h3
        clear h3
        go_wp2_with fail
        exact ⟨⟨j + 1, by omega, by go_num, _, _, by omega, H3⟩, by simp [intOf]; omega⟩
      have q1' : (kd == 1) = false := by rw [beq_eq_false_iff_ne]; exact q1
      by_cases q2 : kd = 2
      · subst q2
        have HV := hid (hSd.charge xi xn)
        clear hSd
        go_wp2_with fail
        go_region_held3 (fun wx => wx.cell? ⟨s, o + j * 3 + 1, none⟩ = some (.int .i64 xi) ∧ wx.cell? ⟨s, o + j * 3 + 2, none⟩ = some (.int .i64 xn)) (first | exact ⟨m1, m2⟩ | exact ⟨c1, c2⟩)
          ((go_at_call 13; refine HV.out.mono ?_; rintro e w3 ⟨rfl, h3⟩; obtain ⟨m1, m2⟩ := HC.out w3 h3.bel; have H3 := hid h3; clear h3))
        go_wp2_with fail
        exact ⟨⟨j + 1, by omega, by go_num, _, _, by omega, H3⟩, by simp [intOf]; omega⟩
      have q2' : (kd == 2) = false := by rw [beq_eq_false_iff_ne]; exact q2
      clear hSd
      go_wp2_with fail
      exact ⟨⟨j + 1, by omega, by go_num, _, _, by omega, hS⟩, by simp [intOf]; omega⟩
    · obtain rfl : j = len := by omega
      clear HA
      go_wp2_with fail
      refine hS.out.ids.mono ?_
      rintro e w4 ⟨v, rfl, hO, hb4⟩
      obtain ⟨g1, cv, rfl, hg1, hgl1, hid4⟩ := ids_row hO hS.out.inv.pos
      have HS4 := hid (hS.out.below hb4)
      have HNR := hid hS.out.mem.narrow
      have HB4 := hid hb4
      have HI := hid hid4
      have hfew := HS4.out.inv.few
      have hpos := HS4.out.inv.pos
      have HU4 := hid (fun f (hf : f ∈ l) => (HS4.out.inv.kids_sum hf))
      clear hO hb4 hid4 hS
      obtain ⟨i0, hi0, hz0, hz1, hz2⟩ := info_parts info3
      have HIF := hid (And.intro hi0 (And.intro hz0 (And.intro hz1 hz2)))
      clear hi0 hz0 hz1 hz2
      go_wp2_with fail
      go_loopw [12, 13] (fun v t wq => ∃ k : Nat, k ≤ l.length ∧ t = .int .i64 (k : Int) ∧ Hid (wq.ownsRow w4.heap.size 3 1 v ((uses l).take k).length (nats ((uses l).take k))) ∧ Below w4.heap.size w4 wq) (fun _ t _ => l.length - (intOf t).toNat)
      case atStart => exact ⟨0, Nat.zero_le _, rfl, World.ownsRow_nil _ _ _ _, Below.refl _ _⟩
      case round =>
        obtain ⟨k, hk, rfl, hO, hX⟩ := hrel
        by_cases hlt2 : k < l.length
        · obtain ⟨f, hf⟩ : ∃ f, l[k]? = some f := ⟨_, List.getElem?_eq_getElem hlt2⟩
          have hm := List.mem_of_getElem? hf
          have hx := (hX.cell (p := ⟨g1, k, none⟩) hgl1).trans (HI.out k f hf)
          have k1 := (HS4.out.below hX).use (f.id : Int)
          rw [(HS4.out.reads hm).2.2.2] at k1
          have K1 := hid k1
          have HK := hid (uses_next hf)
          have hkl : ((uses l).take k).length ≤ 32 := by rw [List.length_take]; omega
          clear k1 hf hm
          generalize useOf l f = u at *
          generalize f.id = fi at *
          generalize (uses l).take k = K at *
          go_wp2_with fail
          refine K1.out.mono ?_
          rintro e w5 ⟨rfl, hb5⟩
          have hX5 := hX.trans (hb5.mono hX.size)
          have HO5 := hid (hO.out.bel hb5 (Nat.le_refl _))
          clear hX hb5 hO K1
          go_wp2_with (first
            | (at_builtin; refine wpList_append_own _ rfl _ _ 33 rfl w4.heap.size 3 i0 (.int .i64 0) 1 8 Try.underlying33 HIF.out.1 HIF.out.2.1 HIF.out.2.2.1 HIF.out.2.2.2 rfl (by decide) _ _ _ rfl (HO5.out.alloc _) ⟨w5.heap.size, 0, none⟩ 1 1 [.int .i64 (u : Int)] rfl rfl ?c1 ?c2 ?c3 ?c4 ?c5 ?_)
            | fail)
          case c1 =>
            intro j u hj
            rw [addr_add, Nat.zero_add, cell_of_row _ _ _ _ _ _ (heap_alloc_new _ _), ← hj]
            match j, hj with
            | 0, _ => rfl
          case c2 =>
            intro u hu
            simp at hu
            subst hu; rfl
          case c3 => unfold maxLen; omega
          case c4 => omega
          case c5 => have := hX5.size; simp; omega
          intro v' w6 hown' hgrow _
          have hX6 : Below w4.heap.size w4 w6 := Below.grown (hX5.alloc hX5.size _) hgrow (by have := hX5.size; simp; omega) (fun r hr => (own_block HO5.out r hr).1)
          have HO : Hid (w6.ownsRow w4.heap.size 3 1 v' (K ++ [u]).length (nats (K ++ [u]))) := by
            rw [nats_snoc, List.length_append]; exact hown'
          clear hown' hgrow hX5 HO5
          go_wp2_with fail
          exact ⟨⟨k + 1, by omega, by go_num, by rw [HK.out]; exact HO, hX6⟩, by simp [intOf]; omega⟩
        · obtain rfl : k = l.length := by omega
          rw [List.take_of_length_le (by rw [uses_len]; omega)] at hO
          have hO2 := hO.out
          rw [uses_len] at hO2
          obtain ⟨av, cu, rfl, hcu⟩ := row_cells hO2
          obtain ⟨f0, hf0⟩ : ∃ f, l[0]? = some f := ⟨_, List.getElem?_eq_getElem hpos⟩
          obtain ⟨g2, rfl, _⟩ := hcu 0 _ (uses_get hf0)
          obtain ⟨hg2, hgl2⟩ := own_block hO2 g2 rfl
          have HK : Hid (Kept n w1 wr p l nxt g1 g2) := by
            refine ⟨?_, HS4.out.inv, Below.of_below HS4.out.bel HS4.out.bel.size hX, fun t f hf => (hX.cell (p := ⟨g1, t, none⟩) hgl1).trans (HI.out t f hf), fun t f hf => ?_, Nat.lt_of_lt_of_le hgl1 hX.size, hgl2⟩
            · refine ((HNR.out.below HB4.out).below hX).wide (fun x hx => ⟨hx.1, by omega, ?_⟩)
              have := HB4.out.size
              omega
            · obtain ⟨g', e, hc⟩ := hcu t _ (uses_get hf)
              obtain rfl : g2 = g' := by simpa using e
              exact hc
          have hnx3 : nxt ≤ 1073741824 := by omega
          clear hO hO2 hcu hX HS4 HI HNR HB4 HU4 hf0 hg1 hg2 hgl1 hgl2
          have hcb := charge_back HK.out.inv ii nn
          have k1 := chargeT_any HK.out.mem HK.out.inv ii nn
          have I1 := hid (HK.out.inv.chargeA ii nn)
          have HH := hid HK.out.held
          have I0 := hid HK.out.inv
          generalize hR : chargeA l ii nn = R at *
          obtain ⟨er, l'⟩ := R
          have K1 := hid k1
          clear k1 hR HK
          simp only at hcb K1 I1
          rcases hcb with ⟨rfl, hre⟩ | ⟨hne, he⟩
          · have HRE := hid hre
            clear hre
            go_wp2_with fail
            refine K1.out.mono ?_
            rintro e w7 ⟨rfl, hq7, ht7⟩
            have H7 := hid (HH.out.turn ht7)
            have k2 := refundT_any hq7 I1.out ii nn
            rw [HRE.out] at k2
            have K2 := hid k2
            clear k2 hq7 ht7 HH
            go_wp2_with fail
            refine K2.out.mono ?_
            rintro e w8 ⟨rfl, hq8, ht8⟩
            have HK := hid ((H7.out.turn ht8).kept hq8 I0.out)
            clear hq8 ht8 H7
            as_aux_lemma =>
              have hcb := carve_back HK.out.inv ii nn
              have k1 := carve_any HK.out.mem HK.out.inv HK.out.held.new hnx3 ii nn
              have I2 := hid (HK.out.inv.carveA ii nn).1
              have HH := hid HK.out.held
              generalize hR : carveA l nxt ii nn = R at *
              obtain ⟨id2, er2, l2, nxt2⟩ := R
              have K1 := hid k1
              clear k1 hR HK
              simp only at hcb K1 I2
              rcases hcb with ⟨rfl, rfl, hu, hcl⟩ | ⟨hne2, he⟩
              · have HRE := hid (And.intro hu hcl)
                clear hu hcl
                go_wp2_with fail
                refine K1.out.mono ?_
                rintro e w9 ⟨rfl, hq9, ht9⟩
                have H9 := hid (HH.out.turn ht9)
                have HQ9 := hid hq9
                clear hq9 ht9 HH
                have k2 : Calls Try.prog 16 #[.pointer (some ⟨p, 0, none⟩), .int .i64 (nxt : Int)] w9 (UsePost (useA l2 (nxt : Int)) w9) := by
                  obtain ⟨a, cap, fb, hq, _⟩ := HQ9.out
                  exact useT_any hq I2.out (nxt : Int)
                rw [HRE.out.1] at k2
                have K2 := hid k2
                clear k2
                go_wp2_with fail
                refine K2.out.mono ?_
                rintro e w10 ⟨rfl, hb10⟩
                have k3 := close_any (HQ9.out.below hb10) I2.out (nxt : Int)
                rw [HRE.out.2] at k3
                have K3 := hid k3
                have H10 := hid (H9.out.below hb10)
                clear k3 hb10 H9 HQ9
                go_wp2_with fail
                refine K3.out.mono ?_
                rintro e w11 ⟨rfl, hq11, ht11⟩
                have HK := hid ((H10.out.turn ht11).kept (N := n) hq11 (by
                  have := I2.out.closeA (nxt : Int)
                  rw [HRE.out.2] at this
                  exact this))
                clear hq11 ht11 H10
                generalize nxt2 = nxt3 at *
                go_wp2_with fail
                refine HK.out.ids.mono ?_
                rintro e w12 ⟨v, rfl, hO, hb12⟩
                obtain ⟨g3, cn, rfl, _, hgl3, hid3⟩ := ids_row hO hpos
                have HK12 := hid (HK.out.below hb12)
                have HI3 := hid hid3
                clear hO hb12 hid3 HK
                go_wp2_with fail
                go_loopw [17] (fun t wq => ∃ k : Nat, k ≤ l.length ∧ t = .int .i64 (k : Int) ∧ Below w12.heap.size w12 wq) (fun t _ => l.length - (intOf t).toNat)
                case atStart => exact ⟨0, Nat.zero_le _, rfl, Below.refl _ _⟩
                case round =>
                  obtain ⟨k, hk, rfl, hX⟩ := hrel
                  have HX := hid hX
                  clear hX
                  by_cases hlt3 : k < l.length
                  · obtain ⟨f, hf⟩ : ∃ f, l[k]? = some f := ⟨_, List.getElem?_eq_getElem hlt3⟩
                    have hm := List.mem_of_getElem? hf
                    have HKr := hid (HK12.out.below HX.out)
                    have y1 := HKr.out.c1 k f hf
                    have y2 := HKr.out.c2 k f hf
                    have y3 := (HX.out.cell (p := ⟨g3, k, none⟩) hgl3).trans (HI3.out k f hf)
                    have HC : Hid (∀ wx : World, Below wr.heap.size wr wx → wx.cell? ⟨g3, k, none⟩ = some (.int .i64 (f.id : Int)) ∧ wx.cell? ⟨g1, k, none⟩ = some (.int .i64 (f.id : Int)) ∧ wx.cell? ⟨g2, k, none⟩ = some (.int .i64 (useOf l f : Int))) := fun wx hx => by
                      have h1 := HKr.out.below hx
                      have h2 := HX.out.trans (hx.mono HX.out.size)
                      exact ⟨(h2.cell (p := ⟨g3, k, none⟩) hgl3).trans (HI3.out k f hf), h1.c1 k f hf, h1.c2 k f hf⟩
                    have k1 := HKr.out.drew.use (f.id : Int)
                    rw [show useA l (f.id : Int) = (useOf l f : Int) from by unfold useA; rw [the_mem HKr.out.inv.up hm]] at k1
                    have K1 := hid k1
                    have HBD : Hid (∀ wx : World, Below wr.drew.heap.size wr.drew wx → Below wr.heap.size wr wx) := fun wx hx => ⟨hx.os, hx.tape, hx.output, hx.size, hx.block⟩
                    have hk0 : (0 : Int) ≤ (k : Int) := by omega
                    have hk1 : (k : Int) < (l.length : Int) := by omega
                    clear k1 hm hf
                    generalize useOf l f = u at *
                    generalize f.id = fi at *
                    have hs1 : ((fi : Int) != (fi : Int)) = false := by simp
                    have hs2 : ((u : Int) != (u : Int)) = false := by simp
                    go_wp2_with fail
                    go_region_held3 (fun wx => wx.cell? ⟨g3, k, none⟩ = some (.int .i64 (fi : Int)) ∧ wx.cell? ⟨g1, k, none⟩ = some (.int .i64 (fi : Int)) ∧ wx.cell? ⟨g2, k, none⟩ = some (.int .i64 (u : Int))) (first | exact ⟨m1, m2, m3⟩ | exact ⟨y3, y1, y2⟩)
                      ((go_at_call 16; refine K1.out.mono ?_; rintro e w13 ⟨rfl, hb13⟩; have hb14 := HBD.out w13 hb13; obtain ⟨m1, m2, m3⟩ := HC.out w13 hb14))
                    go_wp2_with fail
                    exact ⟨⟨k + 1, by omega, by go_num, HX.out.trans (hb14.mono HX.out.size)⟩, by simp [intOf]; omega⟩
                  · have hp0 : 0 < l.length := hpos
                    go_wp2_with fail
                    go_ret
                    exact ⟨rfl, Below.of_below HB1.out HB1.out.size (HK12.out.below HX.out).bel⟩
              · have he' := he.symm
                subst he'
                clear he
                go_wp2_with fail
                refine K1.out.mono ?_
                rintro e w11 ⟨rfl, hq11, ht11⟩
                have HK := hid ((HH.out.turn ht11).kept (N := n) hq11 I2.out)
                clear hq11 ht11 HH
                generalize nxt2 = nxt3 at *
                go_wp2_with fail
                refine HK.out.ids.mono ?_
                rintro e w12 ⟨v, rfl, hO, hb12⟩
                obtain ⟨g3, cn, rfl, _, hgl3, hid3⟩ := ids_row hO hpos
                have HK12 := hid (HK.out.below hb12)
                have HI3 := hid hid3
                clear hO hb12 hid3 HK
                go_wp2_with fail
                go_loopw [17] (fun t wq => ∃ k : Nat, k ≤ l.length ∧ t = .int .i64 (k : Int) ∧ Below w12.heap.size w12 wq) (fun t _ => l.length - (intOf t).toNat)
                case atStart => exact ⟨0, Nat.zero_le _, rfl, Below.refl _ _⟩
                case round =>
                  obtain ⟨k, hk, rfl, hX⟩ := hrel
                  have HX := hid hX
                  clear hX
                  by_cases hlt3 : k < l.length
                  · obtain ⟨f, hf⟩ : ∃ f, l[k]? = some f := ⟨_, List.getElem?_eq_getElem hlt3⟩
                    have hm := List.mem_of_getElem? hf
                    have HKr := hid (HK12.out.below HX.out)
                    have y1 := HKr.out.c1 k f hf
                    have y2 := HKr.out.c2 k f hf
                    have y3 := (HX.out.cell (p := ⟨g3, k, none⟩) hgl3).trans (HI3.out k f hf)
                    have HC : Hid (∀ wx : World, Below wr.heap.size wr wx → wx.cell? ⟨g3, k, none⟩ = some (.int .i64 (f.id : Int)) ∧ wx.cell? ⟨g1, k, none⟩ = some (.int .i64 (f.id : Int)) ∧ wx.cell? ⟨g2, k, none⟩ = some (.int .i64 (useOf l f : Int))) := fun wx hx => by
                      have h1 := HKr.out.below hx
                      have h2 := HX.out.trans (hx.mono HX.out.size)
                      exact ⟨(h2.cell (p := ⟨g3, k, none⟩) hgl3).trans (HI3.out k f hf), h1.c1 k f hf, h1.c2 k f hf⟩
                    have k1 := HKr.out.drew.use (f.id : Int)
                    rw [show useA l (f.id : Int) = (useOf l f : Int) from by unfold useA; rw [the_mem HKr.out.inv.up hm]] at k1
                    have K1 := hid k1
                    have HBD : Hid (∀ wx : World, Below wr.drew.heap.size wr.drew wx → Below wr.heap.size wr wx) := fun wx hx => ⟨hx.os, hx.tape, hx.output, hx.size, hx.block⟩
                    have hk0 : (0 : Int) ≤ (k : Int) := by omega
                    have hk1 : (k : Int) < (l.length : Int) := by omega
                    clear k1 hm hf
                    generalize useOf l f = u at *
                    generalize f.id = fi at *
                    have hs1 : ((fi : Int) != (fi : Int)) = false := by simp
                    have hs2 : ((u : Int) != (u : Int)) = false := by simp
                    go_wp2_with fail
                    go_region_held3 (fun wx => wx.cell? ⟨g3, k, none⟩ = some (.int .i64 (fi : Int)) ∧ wx.cell? ⟨g1, k, none⟩ = some (.int .i64 (fi : Int)) ∧ wx.cell? ⟨g2, k, none⟩ = some (.int .i64 (u : Int))) (first | exact ⟨m1, m2, m3⟩ | exact ⟨y3, y1, y2⟩)
                      ((go_at_call 16; refine K1.out.mono ?_; rintro e w13 ⟨rfl, hb13⟩; have hb14 := HBD.out w13 hb13; obtain ⟨m1, m2, m3⟩ := HC.out w13 hb14))
                    go_wp2_with fail
                    exact ⟨⟨k + 1, by omega, by go_num, HX.out.trans (hb14.mono HX.out.size)⟩, by simp [intOf]; omega⟩
                  · have hp0 : 0 < l.length := hpos
                    go_wp2_with fail
                    go_ret
                    exact ⟨rfl, Below.of_below HB1.out HB1.out.size (HK12.out.below HX.out).bel⟩
          · have he' := he.symm
            subst he'
            clear he
            go_wp2_with fail
            refine K1.out.mono ?_
            rintro e w8 ⟨rfl, hq8, ht8⟩
            have HK := hid ((HH.out.turn ht8).kept hq8 I0.out)
            clear hq8 ht8 HH
            as_aux_lemma =>
              have hcb := carve_back HK.out.inv ii nn
              have k1 := carve_any HK.out.mem HK.out.inv HK.out.held.new hnx3 ii nn
              have I2 := hid (HK.out.inv.carveA ii nn).1
              have HH := hid HK.out.held
              generalize hR : carveA l nxt ii nn = R at *
              obtain ⟨id2, er2, l2, nxt2⟩ := R
              have K1 := hid k1
              clear k1 hR HK
              simp only at hcb K1 I2
              rcases hcb with ⟨rfl, rfl, hu, hcl⟩ | ⟨hne2, he⟩
              · have HRE := hid (And.intro hu hcl)
                clear hu hcl
                go_wp2_with fail
                refine K1.out.mono ?_
                rintro e w9 ⟨rfl, hq9, ht9⟩
                have H9 := hid (HH.out.turn ht9)
                have HQ9 := hid hq9
                clear hq9 ht9 HH
                have k2 : Calls Try.prog 16 #[.pointer (some ⟨p, 0, none⟩), .int .i64 (nxt : Int)] w9 (UsePost (useA l2 (nxt : Int)) w9) := by
                  obtain ⟨a, cap, fb, hq, _⟩ := HQ9.out
                  exact useT_any hq I2.out (nxt : Int)
                rw [HRE.out.1] at k2
                have K2 := hid k2
                clear k2
                go_wp2_with fail
                refine K2.out.mono ?_
                rintro e w10 ⟨rfl, hb10⟩
                have k3 := close_any (HQ9.out.below hb10) I2.out (nxt : Int)
                rw [HRE.out.2] at k3
                have K3 := hid k3
                have H10 := hid (H9.out.below hb10)
                clear k3 hb10 H9 HQ9
                go_wp2_with fail
                refine K3.out.mono ?_
                rintro e w11 ⟨rfl, hq11, ht11⟩
                have HK := hid ((H10.out.turn ht11).kept (N := n) hq11 (by
                  have := I2.out.closeA (nxt : Int)
                  rw [HRE.out.2] at this
                  exact this))
                clear hq11 ht11 H10
                generalize nxt2 = nxt3 at *
                go_wp2_with fail
                refine HK.out.ids.mono ?_
                rintro e w12 ⟨v, rfl, hO, hb12⟩
                obtain ⟨g3, cn, rfl, _, hgl3, hid3⟩ := ids_row hO hpos
                have HK12 := hid (HK.out.below hb12)
                have HI3 := hid hid3
                clear hO hb12 hid3 HK
                go_wp2_with fail
                go_loopw [17] (fun t wq => ∃ k : Nat, k ≤ l.length ∧ t = .int .i64 (k : Int) ∧ Below w12.heap.size w12 wq) (fun t _ => l.length - (intOf t).toNat)
                case atStart => exact ⟨0, Nat.zero_le _, rfl, Below.refl _ _⟩
                case round =>
                  obtain ⟨k, hk, rfl, hX⟩ := hrel
                  have HX := hid hX
                  clear hX
                  by_cases hlt3 : k < l.length
                  · obtain ⟨f, hf⟩ : ∃ f, l[k]? = some f := ⟨_, List.getElem?_eq_getElem hlt3⟩
                    have hm := List.mem_of_getElem? hf
                    have HKr := hid (HK12.out.below HX.out)
                    have y1 := HKr.out.c1 k f hf
                    have y2 := HKr.out.c2 k f hf
                    have y3 := (HX.out.cell (p := ⟨g3, k, none⟩) hgl3).trans (HI3.out k f hf)
                    have HC : Hid (∀ wx : World, Below wr.heap.size wr wx → wx.cell? ⟨g3, k, none⟩ = some (.int .i64 (f.id : Int)) ∧ wx.cell? ⟨g1, k, none⟩ = some (.int .i64 (f.id : Int)) ∧ wx.cell? ⟨g2, k, none⟩ = some (.int .i64 (useOf l f : Int))) := fun wx hx => by
                      have h1 := HKr.out.below hx
                      have h2 := HX.out.trans (hx.mono HX.out.size)
                      exact ⟨(h2.cell (p := ⟨g3, k, none⟩) hgl3).trans (HI3.out k f hf), h1.c1 k f hf, h1.c2 k f hf⟩
                    have k1 := HKr.out.drew.use (f.id : Int)
                    rw [show useA l (f.id : Int) = (useOf l f : Int) from by unfold useA; rw [the_mem HKr.out.inv.up hm]] at k1
                    have K1 := hid k1
                    have HBD : Hid (∀ wx : World, Below wr.drew.heap.size wr.drew wx → Below wr.heap.size wr wx) := fun wx hx => ⟨hx.os, hx.tape, hx.output, hx.size, hx.block⟩
                    have hk0 : (0 : Int) ≤ (k : Int) := by omega
                    have hk1 : (k : Int) < (l.length : Int) := by omega
                    clear k1 hm hf
                    generalize useOf l f = u at *
                    generalize f.id = fi at *
                    have hs1 : ((fi : Int) != (fi : Int)) = false := by simp
                    have hs2 : ((u : Int) != (u : Int)) = false := by simp
                    go_wp2_with fail
                    go_region_held3 (fun wx => wx.cell? ⟨g3, k, none⟩ = some (.int .i64 (fi : Int)) ∧ wx.cell? ⟨g1, k, none⟩ = some (.int .i64 (fi : Int)) ∧ wx.cell? ⟨g2, k, none⟩ = some (.int .i64 (u : Int))) (first | exact ⟨m1, m2, m3⟩ | exact ⟨y3, y1, y2⟩)
                      ((go_at_call 16; refine K1.out.mono ?_; rintro e w13 ⟨rfl, hb13⟩; have hb14 := HBD.out w13 hb13; obtain ⟨m1, m2, m3⟩ := HC.out w13 hb14))
                    go_wp2_with fail
                    exact ⟨⟨k + 1, by omega, by go_num, HX.out.trans (hb14.mono HX.out.size)⟩, by simp [intOf]; omega⟩
                  · have hp0 : 0 < l.length := hpos
                    go_wp2_with fail
                    go_ret
                    exact ⟨rfl, Below.of_below HB1.out HB1.out.size (HK12.out.below HX.out).bel⟩
              · have he' := he.symm
                subst he'
                clear he
                go_wp2_with fail
                refine K1.out.mono ?_
                rintro e w11 ⟨rfl, hq11, ht11⟩
                have HK := hid ((HH.out.turn ht11).kept (N := n) hq11 I2.out)
                clear hq11 ht11 HH
                generalize nxt2 = nxt3 at *
                go_wp2_with fail
                refine HK.out.ids.mono ?_
                rintro e w12 ⟨v, rfl, hO, hb12⟩
                obtain ⟨g3, cn, rfl, _, hgl3, hid3⟩ := ids_row hO hpos
                have HK12 := hid (HK.out.below hb12)
                have HI3 := hid hid3
                clear hO hb12 hid3 HK
                go_wp2_with fail
                go_loopw [17] (fun t wq => ∃ k : Nat, k ≤ l.length ∧ t = .int .i64 (k : Int) ∧ Below w12.heap.size w12 wq) (fun t _ => l.length - (intOf t).toNat)
                case atStart => exact ⟨0, Nat.zero_le _, rfl, Below.refl _ _⟩
                case round =>
                  obtain ⟨k, hk, rfl, hX⟩ := hrel
                  have HX := hid hX
                  clear hX
                  by_cases hlt3 : k < l.length
                  · obtain ⟨f, hf⟩ : ∃ f, l[k]? = some f := ⟨_, List.getElem?_eq_getElem hlt3⟩
                    have hm := List.mem_of_getElem? hf
                    have HKr := hid (HK12.out.below HX.out)
                    have y1 := HKr.out.c1 k f hf
                    have y2 := HKr.out.c2 k f hf
                    have y3 := (HX.out.cell (p := ⟨g3, k, none⟩) hgl3).trans (HI3.out k f hf)
                    have HC : Hid (∀ wx : World, Below wr.heap.size wr wx → wx.cell? ⟨g3, k, none⟩ = some (.int .i64 (f.id : Int)) ∧ wx.cell? ⟨g1, k, none⟩ = some (.int .i64 (f.id : Int)) ∧ wx.cell? ⟨g2, k, none⟩ = some (.int .i64 (useOf l f : Int))) := fun wx hx => by
                      have h1 := HKr.out.below hx
                      have h2 := HX.out.trans (hx.mono HX.out.size)
                      exact ⟨(h2.cell (p := ⟨g3, k, none⟩) hgl3).trans (HI3.out k f hf), h1.c1 k f hf, h1.c2 k f hf⟩
                    have k1 := HKr.out.drew.use (f.id : Int)
                    rw [show useA l (f.id : Int) = (useOf l f : Int) from by unfold useA; rw [the_mem HKr.out.inv.up hm]] at k1
                    have K1 := hid k1
                    have HBD : Hid (∀ wx : World, Below wr.drew.heap.size wr.drew wx → Below wr.heap.size wr wx) := fun wx hx => ⟨hx.os, hx.tape, hx.output, hx.size, hx.block⟩
                    have hk0 : (0 : Int) ≤ (k : Int) := by omega
                    have hk1 : (k : Int) < (l.length : Int) := by omega
                    clear k1 hm hf
                    generalize useOf l f = u at *
                    generalize f.id = fi at *
                    have hs1 : ((fi : Int) != (fi : Int)) = false := by simp
                    have hs2 : ((u : Int) != (u : Int)) = false := by simp
                    go_wp2_with fail
                    go_region_held3 (fun wx => wx.cell? ⟨g3, k, none⟩ = some (.int .i64 (fi : Int)) ∧ wx.cell? ⟨g1, k, none⟩ = some (.int .i64 (fi : Int)) ∧ wx.cell? ⟨g2, k, none⟩ = some (.int .i64 (u : Int))) (first | exact ⟨m1, m2, m3⟩ | exact ⟨y3, y1, y2⟩)
                      ((go_at_call 16; refine K1.out.mono ?_; rintro e w13 ⟨rfl, hb13⟩; have hb14 := HBD.out w13 hb13; obtain ⟨m1, m2, m3⟩ := HC.out w13 hb14))
                    go_wp2_with fail
                    exact ⟨⟨k + 1, by omega, by go_num, HX.out.trans (hb14.mono HX.out.size)⟩, by simp [intOf]; omega⟩
                  · have hp0 : 0 < l.length := hpos
                    go_wp2_with fail
                    go_ret
                    exact ⟨rfl, Below.of_below HB1.out HB1.out.size (HK12.out.below HX.out).bel⟩

theorem walk (a0 : Int) (a1 : Option Addr) (len1 cap1 : Nat) (a2 a3 : Int) (w : World) (w0 : (Lit.int .u16 a0).wf = true) (w1 : Acts w w.heap.size a1 len1) :
    Calls Try.prog 7 #[.int .u16 a0, .slice a1 len1 cap1, .int .i64 a2, .int .i64 a3] w fun e w' => e = .returned (.bool true) ∧ Below w.heap.size w w' := by
  have b0 := bounds_u16 w0
  obtain ⟨m, rfl⟩ := Int.eq_ofNat_of_zero_le b0.1
  by_cases hl : (100 : Int) < (len1 : Int)
  · exact core_long m a1 len1 cap1 a2 a3 w hl
  · exact core m a1 len1 cap1 a2 a3 w w1 (by omega) (by omega)

theorem own : ownKnob Try.prog.godebug = none := by kernel_rfl
theorem laidOut : laidOutB Try.prog = true := by kernel_rfl

set_option maxRecDepth 100000 in
theorem lifted (os : Os) (started : os.Started) (H : Type) (enc : TypeId × Value → H) :
    ReturnsInHanded {} Try.checked os 7 .any (Rows.quotaBackSpec.pre6 enc Try.prog Try.f7 Rows.quotaBackRow.domain false) (Rows.quotaBackSpec.post enc Try.prog Try.f7 false true false false) := by
  refine returnsInHanded_of_change (C := Try.checked) own started (by kernel_rfl) Try.func7
    (ChangeSpec.witness6 (enc := enc) (C := Try.checked) false ⟨#[], #[.int .u16 0, .slice none 0 0, .int .i64 0, .int .i64 0], []⟩ 8 (by kernel_rfl) (by kernel_rfl) (by kernel_rfl) (by kernel_rfl)) ?_
  intro W base args ds gs before hval0 hW hcnd _
  have hval : ∀ (j : Nat) t v, Try.f7.params[j]? = some t → args[j]? = some v → Value.okWide Try.prog W .any base t v := hval0
  have hW' := hW
  obtain ⟨p, q, hA0, hV, rfl, hfz, hnd⟩ := hW
  have hA : DataW.TrodAll enc Try.prog W 0 (fun _ => true) true Try.f7.params.toList args.toList ds p := hA0
  rw [Try.params7] at hA hval
  obtain ⟨v0, vs0, d0, ds0, p0, q0, hargs, rfl, rfl, h0, r0⟩ := trodAll_cons hA
  obtain ⟨v1, vs1, d1, ds1, p1, q1, rfl, rfl, rfl, h1, r1⟩ := trodAll_cons r0
  obtain ⟨v2, vs2, d2, ds2, p2, q2, rfl, rfl, rfl, h2, r2⟩ := trodAll_cons r1
  obtain ⟨v3, vs3, d3, ds3, p3, q3, rfl, rfl, rfl, h3, r3⟩ := trodAll_cons r2
  obtain ⟨rfl, rfl, rfl⟩ := trodAll_nil r3
  obtain rfl : args = #[v0, v1, v2, v3] := by cases args; simp_all
  obtain ⟨rfl, rfl⟩ := trodVars_none hV
  obtain ⟨a0, rfl, rfl, rfl, w0⟩ := open_int Try.underlying49 (hval 0 49 v0 rfl rfl) h0
  obtain ⟨a1, len1, cap1, rfl⟩ := okWide_slice Try.underlying22 (hval 1 22 v1 rfl rfl)
  have k1 := h1
  have lt1 : ∀ x ∈ p1, x.block < W.heap.size := by obtain ⟨m, hm⟩ := k1; exact DataW.trod_lt m _ _ _ hm
  have w1 : Acts W W.heap.size a1 len1 := by
    obtain ⟨fuel, hf⟩ := h1
    exact acts_of (cap := cap1) (by simpa [Value.cells] using hf)
  obtain ⟨a2, rfl, rfl, rfl, w2⟩ := open_int Try.underlying3 (hval 2 3 v2 rfl rfl) h2
  obtain ⟨a3, rfl, rfl, rfl, w3⟩ := open_int Try.underlying3 (hval 3 3 v3 rfl rfl) h3
  clear hA0 hval0
  refine (walk a0 a1 len1 cap1 a2 a3 W w0 w1).mono fun e W' ⟨he, bel⟩ => ?_
  subst he
  exact ⟨_, rfl, _, _, _, [], _, [], hW', trodAll_mk1 (shut_bool Try.underlying4 _), (trodAll_cons_mk (shut_int Try.underlying49 w0) (trodAll_cons_mk (Below.trod laidOut (by kernel_rfl) (of_decide_eq_true (by kernel_rfl)) k1 bel lt1) (trodAll_cons_mk (shut_int Try.underlying3 w2) (trodAll_cons_mk (shut_int Try.underlying3 w3) trodAll_mk0)))), rfl, bel.frame _, fun h => by cases h⟩

theorem proved : Rows.QuotaBackSaid :=
  OpenClaim.holds_of_wide 7 Try.f7 rfl rfl rfl rfl rfl rfl rfl ⟨rfl, rfl, rfl, rfl, rfl⟩ rfl rfl rfl rfl rfl (by kernel_rfl) Try.func7 (by kernel_rfl)
    (of_decide_eq_true (by kernel_rfl)) (by unfold Func.isWrapper; first | (rw [if_pos (by decide +kernel)]; kernel_rfl) | (rw [if_neg (by decide +kernel)]; exact ⟨rfl, rfl⟩))
    (fun os started H enc _ => lifted os started H enc)

end Go.Proofs.Ytlgceknfphholaa.quotaBack
