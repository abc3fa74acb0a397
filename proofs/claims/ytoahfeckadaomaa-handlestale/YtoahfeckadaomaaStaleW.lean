/- The walk of HandleStale. -/
import Derived.Test.YtoahfeckadaomaaStale
namespace Go.Proofs.Ytoahfeckadaomaa.handleStale
open Go.RowKit Go.Maps Go.Shelf Go.Proofs.Ytoahfeckadaomaa

/-- A handle more is kept. -/
theorem kept_append {w : World} {base n : Nat} {v : Value} (h : Kept w base v n) (hn : n ≤ 256) (hb : base ≤ w.heap.size) :
    ∃ g cap w', (Builtin.append_ #[36, 36] 36 #[v, .slice (some ⟨w.heap.size, 0, none⟩) 1 1]).run Try.prog (w.alloc (.cells #[.int .u32 (n : Int)] 26)) = .ok (.slice (some ⟨g, 0, none⟩) (n + 1) cap) w' ∧ Kept w' base (.slice (some ⟨g, 0, none⟩) (n + 1) cap) (n + 1) ∧ Below base w w' := by
  obtain ⟨i0, hi, hz0, hz1', hz2'⟩ := info_parts infoH
  obtain ⟨v', w', hr, ho, hg, _, _⟩ := run_append_own_at (P := Try.prog) (w := w.alloc (.cells #[.int .u32 (n : Int)] 26)) base 36 36 26 i0 (.int .u32 0) 1 4 Try.underlying36 hi hz0 hz1' hz2' rfl (by decide) v n (hds (List.range n)) (World.ownsRow.alloc h _) ⟨w.heap.size, 0, none⟩ 1 1 [.int .u32 (n : Int)] rfl (cell_one_new _ _ _) (by simp [Value.oneCell']) (by unfold maxLen; omega) (by omega) (by simp; omega)
  obtain ⟨g, cap, rfl⟩ := ownsRow_succ ho
  refine ⟨g, cap, w', hr, ?_, ((Below.refl base w).alloc hb _).grown hg (by simp; omega) (fun k e => (own_block h k e).1)⟩
  show w'.ownsRow base 26 1 _ (n + 1) (hds (List.range (n + 1)))
  have e : hds (List.range (n + 1)) = hds (List.range n) ++ [.int .u32 (n : Int)] := by
    unfold hds; rw [List.range_succ, List.map_append]; rfl
  rw [e]
  exact ho
theorem Ht.low {v w w' : World} {b B : Nat} {T : Nat → Pl} (h : Ht v w b T) (hb : Below B w w') (hB : v.heap.size ≤ B) (hbB : b < B) : Ht v w' b T := ⟨h.tb.same (hb.block b hbB), h.wf, h.bel.trans (hb.mono hB), h.le⟩
/-- What stands all along: the table, and the handles that are kept. -/
structure Sy (w2 wr : World) (k : Nat) (v : Value) (b : Nat) (T : Nat → Pl) (v0 : World) : Prop where
  ht : Ht v0 wr b T
  kept : Kept wr w2.heap.size v k
  lt : b < w2.heap.size
  le : w2.heap.size ≤ wr.heap.size
section
variable {w2 w w' v0 : World} {k b : Nat} {v : Value} {T : Nat → Pl}
theorem Sy.below (h : Sy w2 w k v b T v0) (hb : Below w.heap.size w w') : Sy w2 w' k v b T v0 := ⟨h.ht.below hb, h.kept.below hb, h.lt, Nat.le_trans h.le hb.size⟩
theorem Sy.alloc (h : Sy w2 w k v b T v0) (o : Obj) : Sy w2 (w.alloc o) k v b T v0 := h.below ((Below.refl _ w).alloc (Nat.le_refl _) _)
theorem Sy.but {T' : Nat → Pl} (h : Sy w2 w k v b T v0) (ht : Ht v0 w' b T') (hb : But b w w') : Sy w2 w' k v b T' v0 := ⟨ht, h.kept.but hb h.lt, h.lt, Nat.le_trans h.le hb.size⟩
end

set_option maxRecDepth 100000 in
set_option maxHeartbeats 8000000 in
theorem walk (n m f : Nat) (w : World) (hn : n ≤ 255) (hm : m ≤ 255) (hf : f ≤ 255) :
    Calls Try.prog 4 #[.int .u8 (n : Int), .int .u8 (m : Int), .int .u8 (f : Int)] w fun e w' => e = .returned (.bool true) ∧ Below w.heap.size w w' := by
  obtain ⟨k, hk0⟩ : ∃ k, k = 1 + n % 200 := ⟨_, rfl⟩
  have hk : 1 + (n : Int) % 200 = (k : Int) := by omega
  have hk1 : 1 ≤ k := by omega
  have hk2 : k ≤ 200 := by omega
  clear hk0
  go_enter Try.func4, Try.ntmps4
  go_wp2_with fail
  refine (alive_true _).mono ?_
  rintro e w1 ⟨rfl, hb1⟩
  have HB1 := hid hb1
  clear hb1
  go_wp2_with fail
  refine (Ht.new w1).mono ?_
  rintro e w2 ⟨rfl, h2⟩
  have hs2 : Sy w2 w2 0 (.slice none 0 0) w1.heap.size (Sa 0) w1 := ⟨by rw [← sa_zero]; exact h2, World.ownsRow_nil _ _ _ _, h2.tb.lt, Nat.le_refl _⟩
  have H2 := hid hs2
  clear h2 hs2
  go_wp2_with fail
  go_loopw [10, 9] (fun c v wr => ∃ i : Nat, i ≤ k ∧ c = .int .i64 (i : Int) ∧ Hid (Sy w2 wr i v w1.heap.size (Sa i) w1)) (fun c _ _ => k - (intOf c).toNat)
  case atStart => exact ⟨0, Nat.zero_le _, rfl, H2⟩
  case round =>
    obtain ⟨i, hi, rfl, hS⟩ := hrel
    clear H2
    by_cases hlt : i < k
    · have c := hS.out.ht.put i (sa_first (by omega)) (ob i)
      rw [sa_put (show i < 256 by omega)] at c
      unfold obv ob at c
      have C := hid c
      clear c
      go_wp2_with fail
      refine C.out.mono ?_
      rintro e w3 ⟨rfl, h3, hB3⟩
      have h3s := hS.out.but h3 hB3
      clear C h3 hB3 hS
      obtain ⟨g, cap, w4, hr, hk4, hg4⟩ := kept_append h3s.kept (by omega) h3s.le
      have hHt : Ht w1 w4 w1.heap.size (Sa (i + 1)) := Ht.low h3s.ht hg4 (Nat.le_of_lt h3s.lt) h3s.lt
      have H4 := hid (show Sy w2 w4 (i + 1) (.slice (some ⟨g, 0, none⟩) (i + 1) cap) w1.heap.size (Sa (i + 1)) w1 from ⟨hHt, hk4, h3s.lt, Nat.le_trans h3s.le hg4.size⟩)
      clear h3s hk4 hg4 hHt
      go_wp2_with (at_builtin; refine wpList_append_run rfl _ _ 36 36 rfl _ _ _ rfl rfl hr ?_)
      exact ⟨⟨i + 1, by omega, by go_num, H4⟩, by simp [intOf]; omega⟩
    · obtain rfl : i = k := by omega
      obtain ⟨a9, cap9, hv9, _⟩ := row_cells hS.out.kept
      have HS0 := hid (show Sy w2 wr i (.slice a9 i cap9) w1.heap.size (Sb f i 0) w1 by rw [← sb_zero, ← hv9]; exact hS.out)
      subst hv9
      clear hS hlt hi
      have hkn : ((i : Nat) == 0) = false := by rw [beq_eq_false_iff_ne]; omega
      have hkz : ((i : Int) == 0) = false := by rw [beq_eq_false_iff_ne]; omega
      go_wp2_with fail
      go_loopw [13] (fun c wq => ∃ j : Nat, j ≤ i ∧ c = .int .i64 (j : Int) ∧ Hid (Sy w2 wq i (.slice a9 i cap9) w1.heap.size (Sb f i j) w1)) (fun c _ => i - (intOf c).toNat)
      case atStart => exact ⟨0, Nat.zero_le _, rfl, HS0⟩
      case round =>
        obtain ⟨j, hj, rfl, hS⟩ := hrel
        clear HS0
        by_cases hlt : j < i
        · obtain ⟨x, hx0⟩ : ∃ x, x = (j + f) % i := ⟨_, rfl⟩
          have hxk : x < i := by rw [hx0]; exact Nat.mod_lt _ (by omega)
          have hx : ((j : Int) + (f : Int)) % (i : Int) = (x : Int) := by rw [hx0, Int.natCast_emod, Int.natCast_add]
          have hxt : ((j : Int) + (f : Int)).tmod (i : Int) = (x : Int) := by rw [← hx]; exact Int.tmod_eq_emod_of_nonneg (by omega)
          obtain ⟨g, hg, cx⟩ := hS.out.kept.at hxk
          subst hg
          obtain ⟨A, hA⟩ : ∃ A, A = 1 + (x : Int) % 5 := ⟨_, rfl⟩
          obtain ⟨B, hB⟩ : ∃ B, B = 16 * (x : Int) := ⟨_, rfl⟩
          have hob : ob x = ⟨A, B, 0⟩ := by rw [hA, hB]; rfl
          have eg := sb_get (f := f) hlt (show i ≤ 256 by omega)
          have ek := sb_kill (f := f) hlt (show i ≤ 256 by omega)
          have ef := sk_free (f := f) hlt (show i ≤ 256 by omega)
          rw [← hx0, hob] at eg ef
          rw [← hx0] at ek
          have c := hS.out.ht.get x (by omega)
          rw [eg] at c
          have C := hid c
          have E := hid (And.intro ek ef)
          clear c eg ek ef hob hA hB hx0
          go_wp2_with fail
          refine C.out.mono ?_
          rintro e w3 ⟨rfl, hb3⟩
          unfold obv
          have h3 := hS.out.below hb3
          have hne3 : w3.heap.size ≠ w1.heap.size := by have := h3.ht.tb.lt; omega
          have p3 := heap_alloc_new w3 (.cells #[.int .i64 A, .int .i64 B, .int .i64 0] 31)
          have c := (h3.alloc (.cells #[.int .i64 A, .int .i64 B, .int .i64 0] 31)).ht.kill x (by omega)
          rw [E.out.1] at c
          have D := hid c
          have H3 := hid (And.intro (h3.alloc (.cells #[.int .i64 A, .int .i64 B, .int .i64 0] 31)) p3)
          clear c C h3 hb3 hS p3 cx
          go_wp2_with fail
          refine D.out.mono ?_
          rintro e w4 ⟨rfl, h4, hB4⟩
          have p4 := hB4.keep H3.out.2 hne3
          have h4s := H3.out.1.but h4 hB4
          have c := h4.free x (by omega)
          rw [E.out.2] at c
          have C := hid c
          have H4 := hid (And.intro h4s p4)
          clear c D h4 hB4 p4 h4s H3
          go_wp2_with fail
          refine C.out.mono ?_
          rintro e w5 ⟨rfl, h5, hB5⟩
          unfold obv
          have p5 := hB5.keep H4.out.2 hne3
          have hs5 : w3.heap.size < w5.heap.size := lt_of p5
          obtain ⟨⟨c0, c1, c2⟩, _⟩ := row3 p5
          have H5 := hid ((H4.out.1.but h5 hB5).alloc (.cells #[.int .i64 A, .int .i64 B, .int .i64 0] 31))
          clear C h5 hB5 p5 H4 E
          go_wp2_with fail
          exact ⟨⟨j + 1, by omega, by go_num, H5⟩, by simp [intOf]; omega⟩
        · obtain rfl : j = i := by omega
          have HA := hid (And.intro (sb_aged f j) hS.out)
          clear hS hlt hj
          go_wp2_with fail
          go_loopw [20] (fun c wp => ∃ l : Nat, l ≤ m ∧ c = .int .i64 (l : Int) ∧ ∃ T, Hid (Aged j T ∧ Sy w2 wp j (.slice a9 j cap9) w1.heap.size T w1)) (fun c _ => m - (intOf c).toNat)
          case atStart => exact ⟨0, Nat.zero_le _, rfl, _, HA⟩
          case round =>
            obtain ⟨l, hl, rfl, T, hS⟩ := hrel
            clear HA
            by_cases hlt : l < m
            · obtain ⟨q, hq⟩ := first_ex T
              have c := hS.out.2.ht.put q hq ⟨1, 5, 0⟩
              have C := hid (And.intro c (hS.out.1.put q ⟨1, 5, 0⟩))
              clear c
              go_wp2_with fail
              refine C.out.1.mono ?_
              rintro e w3 ⟨rfl, h3, hB3⟩
              have H3 := hid (And.intro C.out.2 (hS.out.2.but h3 hB3))
              clear C h3 hB3 hS
              go_wp2_with fail
              exact ⟨⟨l + 1, by omega, by go_num, _, H3⟩, by simp [intOf]; omega⟩
            · have HA := hS
              go_wp2_with fail
              clear hS hlt hl
              go_loopw [21] (fun c wp => ∃ y : Nat, y ≤ j ∧ c = .int .i64 (y : Int) ∧ Hid (Aged j T ∧ Sy w2 wp j (.slice a9 j cap9) w1.heap.size T w1)) (fun c _ => j - (intOf c).toNat)
              case atStart => exact ⟨0, Nat.zero_le _, rfl, HA⟩
              case round =>
                obtain ⟨y, hy, rfl, hS⟩ := hrel
                clear HA
                by_cases hlt : y < j
                · have eg := hS.out.1.get (by omega) hlt
                  have ek := hS.out.1.kill (by omega) hlt
                  have ef := hS.out.1.free (by omega) hlt
                  obtain ⟨g, hg, cx⟩ := hS.out.2.kept.at hlt
                  subst hg
                  have c := hS.out.2.ht.get y (by omega)
                  rw [eg] at c
                  have C := hid c
                  have E := hid (And.intro ek ef)
                  clear c eg ek ef
                  go_wp2_with fail
                  refine C.out.mono ?_
                  rintro e w3 ⟨rfl, hb3⟩
                  unfold obv noOb
                  have h3 := (hS.out.2.below hb3).alloc (.cells #[.int .i64 0, .int .i64 0, .int .i64 0] 31)
                  obtain ⟨g', hg, cx3⟩ := h3.kept.at hlt
                  obtain rfl : g = g' := by simpa using hg
                  have c := h3.ht.free y (by omega)
                  rw [E.out.2] at c
                  have D := hid c
                  have H3 := hid (And.intro hS.out.1 h3)
                  clear c C h3 hb3 hS cx hg
                  go_wp2_with fail
                  refine D.out.mono ?_
                  rintro e w4 ⟨rfl, h4, hB4⟩
                  unfold obv noOb
                  have h4s := (H3.out.2.but h4 hB4).alloc (.cells #[.int .i64 0, .int .i64 0, .int .i64 0] 31)
                  obtain ⟨g', hg, cx4⟩ := h4s.kept.at hlt
                  obtain rfl : g = g' := by simpa using hg
                  have c := h4s.ht.kill y (by omega)
                  rw [E.out.1] at c
                  have C := hid c
                  have H4 := hid (And.intro H3.out.1 h4s)
                  clear c D h4 hB4 h4s H3 E hg cx3
                  go_wp2_with fail
                  refine C.out.mono ?_
                  rintro e w5 ⟨rfl, h5, hB5⟩
                  have H5 := hid (And.intro H4.out.1 (H4.out.2.but h5 hB5))
                  clear C h5 hB5 H4 cx4
                  go_wp2_with fail
                  exact ⟨⟨y + 1, by omega, by go_num, H5⟩, by simp [intOf]; omega⟩
                · go_wp2_with fail
                  refine (alive_true _).mono ?_
                  rintro e w3 ⟨rfl, hb3⟩
                  have H3 := hid (hS.out.2.ht.bel.trans (hb3.mono hS.out.2.ht.bel.size))
                  clear hb3
                  go_wp2_with fail
                  go_ret
                  exact ⟨rfl, Below.of_below HB1.out HB1.out.size H3.out⟩
end Go.Proofs.Ytoahfeckadaomaa.handleStale
