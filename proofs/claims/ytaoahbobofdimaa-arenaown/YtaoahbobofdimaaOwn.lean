/- For every list of bytes, every place and every byte: bytes that were read out of the arena, or written to it, and are changed by whoever has them turn nothing in the arena: ArenaOwn returns true. Conditions: none. -/
import Derived.Test.YtaoahbobofdimaaE
import Derived.ProofKit
import Derived.OpenShut
import Derived.ShutString
import Derived.ChangeOld
import Derived.Deep.AppendSrc
namespace Go.Proofs.Ytaoahbobofdimaa.arenaOwn
open Go.ChangeShapes Go.WideShapes Go.ChangeAt Go.RowKit Go.Proofs.Ytaoahbobofdimaa

theorem info5x : ∃ i, Try.prog.info? 5 = some i ∧ i.zero = some (.int .u8 0) ∧ i.size = 1 ∧ i.bytes = 1 := by
  obtain ⟨i, hi, he⟩ := Option.map_eq_some_iff.1 info5
  simp only [Prod.mk.injEq] at he
  exact ⟨i, hi, he.1, he.2.1, he.2.2⟩

/-- The new slice of an append to an empty one. -/
theorem append_new (w : World) (xs : List Int) (s o cap : Nat) (h0 : 0 < xs.length) (hl : xs.length ≤ 1000) (hs : s < w.heap.size)
    (hsrc : ∀ j, j < xs.length → w.cell? ⟨s, o + j, none⟩ = some (.int .u8 (xs[j]?.getD 0))) :
    ∃ w' c zs, (Builtin.append_ #[32, 32] 32 #[.slice (some ⟨w.heap.size, 0, none⟩) 0 0, .slice (some ⟨s, o, none⟩) xs.length cap]).run Try.prog (w.alloc (.cells #[] 5)) =
      .ok (.slice (some ⟨w.heap.size + 1, 0, none⟩) xs.length c) w' ∧ w'.heap[w.heap.size + 1]? = some (.cells (bv (xs ++ zs)) 5) ∧ Below w.heap.size w w' ∧ w.heap.size + 1 < w'.heap.size := by
  obtain ⟨i, hi, hz, hsz, hb⟩ := info5x
  have hS : Src Try.prog i.size 32 (.slice (some ⟨s, o, none⟩) xs.length cap) xs.length (xs.map (Value.int .u8)) (w.alloc (.cells #[] 5)) :=
    Src.ofSlice _ Try.underlying32 _ _ _ _ (by rw [hsz]; simp) (by
      intro j u hj
      have hjl : j < xs.length := by simpa using (List.getElem?_eq_some_iff.1 hj).1
      rw [addr_add, World.cell?_alloc_lt (a := ⟨s, o + j, none⟩) (h := hs), hsrc j hjl, ← hj]
      simp [hjl]) (oneCell_map xs)
  have hr := run_append_grow_src (P := Try.prog) (w.alloc (.cells #[] 5)) 32 32 32 5 i (.int .u8 0) Try.underlying32 hi hz (some ⟨w.heap.size, 0, none⟩) 0 0 []
    (run_firstCells_some _ i.size 0 _ 0 0 [] (by simp) (by simp)) _ xs.length _ hS (by omega) (by omega) (by
      rw [hb, Nat.zero_add, Nat.mul_one]
      unfold Builtin.nextslicecap
      rw [if_pos (by omega)]
      omega)
  rw [Nat.zero_add] at hr
  refine ⟨_, _, List.replicate (grownCap (w.alloc (.cells #[] 5)) xs.length 0 5 - xs.length) 0, by simpa using hr, ?_, ?_, ?_⟩
  · have e : (xs.map (Value.int .u8)).toArray ++ Builtin.zeroCells (Value.int .u8 0).cells (grownCap (w.alloc (.cells #[] 5)) xs.length 0 5 - xs.length) = bv (xs ++ List.replicate (grownCap (w.alloc (.cells #[] 5)) xs.length 0 5 - xs.length) 0) := by
      apply Array.ext'
      have hz1 : (Value.int .u8 0).cells = #[.int .u8 0] := rfl
      rw [hz1]
      simp [bv, Builtin.zeroCells, Nat.mod_one, List.map_const']
    have h2 := heap_alloc_new (w.alloc (.cells #[] 5)).drew (.cells ((xs.map (Value.int .u8)).toArray ++ Builtin.zeroCells (Value.int .u8 0).cells (grownCap (w.alloc (.cells #[] 5)) xs.length 0 5 - xs.length)) 5)
    rw [← e]
    simpa using h2
  · exact ((Below.refl _ _).alloc (Nat.le_refl _) _).drew.alloc (by simp) _
  · simp

theorem Arena.but {w w' : World} {b g r : Nat} {m : List Int} (hA : Arena w b g m) (hb : But r w w') (h1 : b ≠ r) (h2 : g ≠ r) : Arena w' b g m :=
  ⟨by rw [hb.block b hA.lt.1 h1]; exact hA.head, by rw [hb.block g hA.lt.2 h2]; exact hA.body, hA.unlike, hA.small, hA.byte⟩

theorem cut_put (m : List Int) (o : Nat) (cs : List Int) (h : o + cs.length ≤ m.length) : ((putAt m o cs).drop o).take cs.length = cs := by
  apply List.ext_getElem?
  intro i
  rw [List.getElem?_take]
  by_cases hi : i < cs.length
  · rw [if_pos hi, List.getElem?_drop, putAt_get m o cs h, if_neg (by omega), if_pos (by omega)]
    congr 1; omega
  · rw [if_neg hi, List.getElem?_eq_none (by omega)]

set_option maxHeartbeats 2000000 in
theorem core (xs : List Int) (s o cap : Nat) (sp c : Int) (w : World) (hs0 : 0 ≤ sp) (hs1 : sp < 65536) (hl : xs.length ≤ 1000) (h1 : 0 < xs.length) (hs : s < w.heap.size)
    (hsrc : ∀ j, j < xs.length → w.cell? ⟨s, o + j, none⟩ = some (.int .u8 (xs[j]?.getD 0))) (hby : Byte xs) :
    Calls Try.prog 7 #[.slice (some ⟨s, o, none⟩) xs.length cap, .int .u16 sp, .int .u8 c] w fun e w' => e = .returned (.bool true) ∧ Below w.heap.size w w' := by
  have HS := hid hsrc
  have HB := hid hby
  clear hsrc hby
  go_enter Try.func7, Try.ntmps7
  go_wp2_with fail
  refine (alive_true _).mono ?_
  rintro e w1 ⟨rfl, hb1⟩
  go_wp2_with fail
  refine (new_64k _).mono ?_
  rintro e w2 ⟨b, g, rfl, hA2, hb2, hlb, hlg⟩
  have hB2 := Below.of_below hb1 hb1.size hb2
  have hlg' : w.heap.size ≤ g := Nat.le_trans hb1.size hlg
  have hsz2 := hB2.size
  clear hb1 hb2 hlb hlg
  obtain ⟨w3, cp, zs, hrun, hrow, hb3, hsz3⟩ := append_new w2 xs s o cap h1 hl (by omega) (fun j hj => (hB2.cell (p := ⟨s, o + j, none⟩) hs).trans (HS.out j hj))
  have hA3 := hA2.below hb3
  have hB3 := Below.of_below hB2 hB2.size hb3
  have hbr : b ≠ w2.heap.size + 1 := by have := hA2.lt.1; omega
  have hgr : g ≠ w2.heap.size + 1 := by have := hA2.lt.2; omega
  have HR := hid hrun
  have HW := hid hrow
  clear hrun hrow hb3 hA2
  obtain ⟨r, hr⟩ : ∃ r, r = w2.heap.size + 1 := ⟨_, rfl⟩
  have hwr : w.heap.size ≤ r := by omega
  rw [← hr] at hbr hgr hsz3 HW HR
  clear hr
  go_wp2_with (at_builtin; refine wpList_append_run rfl _ _ 32 32 rfl _ _ _ rfl rfl HR.out ?_)
  clear HR
  have hsp : 0 ≤ sp % 64000 := by omega
  have hsp' : sp % 64000 < 64000 := by omega
  generalize sp % 64000 = a at *
  refine (write_ok b g (zeros 65536) xs a r 0 cp _ hA3 hsp (by rw [zeros_length]; omega) (by
    intro j hj
    rw [cell_of_row _ _ _ _ _ _ HW.out, Nat.zero_add, bv_get _ _ (by simp; omega), List.getElem?_append_left hj]) HB.out).mono ?_
  rintro e w4 ⟨rfl, hA4, hb4⟩
  have hB4 := Below.of_but hB3 hB3.size hb4 hlg'
  have hW4 : w4.heap[r]? = some (.cells (bv (xs ++ zs)) 5) := by rw [hb4.block r hsz3 (Ne.symm hgr)]; exact HW.out
  have hsz4 : r < w4.heap.size := Nat.lt_of_lt_of_le hsz3 hb4.size
  have HW4 := hid hW4
  have hcut := cut_put (zeros 65536) a.toNat xs (by rw [zeros_length]; omega)
  have hlen : (putAt (zeros 65536) a.toNat xs).length = 65536 := by rw [putAt_length _ _ _ (by rw [zeros_length]; omega), zeros_length]
  generalize putAt (zeros 65536) a.toNat xs = m at *
  have HC := hid hcut
  have HL := hid hlen
  clear hW4 HW hA3 hB3 hb4 hsz3 hcut hlen
  go_wp2_with fail
  go_loopw [10] (fun i wr => ∃ j : Nat, j ≤ xs.length ∧ i = .int .i64 j ∧ (∃ ys : List Int, Hid (wr.heap[r]? = some (.cells (bv ys) 5)) ∧ xs.length ≤ ys.length) ∧ But r w4 wr) (fun i _ => xs.length - (intOf i).toNat)
  case atStart => exact ⟨0, Nat.zero_le _, rfl, ⟨_, HW4, by simp⟩, But.refl _ _⟩
  case round =>
    obtain ⟨j, hj, rfl, ⟨ys, hys, hyl⟩, hbut⟩ := hrel
    by_cases hlj : j < xs.length
    · have hcell := cell_of_row _ r j _ _ _ hys.out
      rw [bv_get _ _ (by omega)] at hcell
      have hfro := frozen_of_row _ r j _ _ hys.out
      have hnext := heap_setCell_same _ r j _ _ (.int .u8 c) hys.out
      rw [bv_set] at hnext
      have HN := hid hnext
      clear hnext
      go_wp2
      exact ⟨⟨j + 1, by omega, by go_num, ⟨_, HN, by simpa using hyl⟩, hbut.setCell (.inl rfl) _⟩, by simp [intOf]; omega⟩
    · have hA5 := Arena.but hA4 hbut hbr hgr
      have hB5 := Below.of_but hB4 hB4.size hbut hwr
      clear hA4 hB4 hbut hys hyl HW4
      go_wp2_with fail
      refine (read_ok b g m a xs.length _ hA5 hsp (by omega) (by rw [HL.out]; omega)).mono ?_
      rintro e w6 ⟨rfl, hr6, hb6, hs6⟩
      rw [Int.toNat_natCast, HC.out] at hr6
      rw [Int.toNat_natCast]
      have hsz5 := hB5.size
      have hA6 := hA5.below hb6
      have hB6 := Below.of_below hB5 hB5.size hb6
      have hlt5 := hA5.lt
      obtain ⟨rx, hrx⟩ : ∃ rx, rx = wr.heap.size := ⟨_, rfl⟩
      rw [← hrx] at hr6 ⊢
      have hx1 : w.heap.size ≤ rx := by omega
      have hx2 : rx < w6.heap.size := by omega
      have hx3 : b ≠ rx := by omega
      have hx4 : g ≠ rx := by omega
      have HR6 := hid hr6
      clear hr6 hb6 hs6 hA5 hB5 hlt5 hrx hsz5
      go_wp2_with fail
      refine (same_true xs rx 0 xs.length s o cap _ (by omega) hx2 (by have := hB6.size; omega) (by
        intro k hk
        rw [cell_of_row _ _ _ _ _ _ HR6.out, Nat.zero_add, bv_get _ _ hk]) (fun k hk => (hB6.cell (p := ⟨s, o + k, none⟩) hs).trans (HS.out k hk))).mono ?_
      rintro e w7 ⟨rfl, hb7⟩
      have hA7 := hA6.below hb7
      have hB7 := Below.of_below hB6 hB6.size hb7
      have hW7 : w7.heap[rx]? = some (.cells (bv xs) 5) := by rw [hb7.block rx hx2]; exact HR6.out
      have HW7 := hid hW7
      clear hA6 hB6 hb7 hW7 HR6 hx2
      go_wp2_with fail
      go_loopw [13] (fun i wr => ∃ j : Nat, j ≤ xs.length ∧ i = .int .i64 j ∧ (∃ ys : List Int, Hid (wr.heap[rx]? = some (.cells (bv ys) 5)) ∧ xs.length ≤ ys.length) ∧ But rx w7 wr) (fun i _ => xs.length - (intOf i).toNat)
      case atStart => exact ⟨0, Nat.zero_le _, rfl, ⟨_, HW7, Nat.le_refl _⟩, But.refl _ _⟩
      case round =>
        obtain ⟨k, hk, rfl, ⟨ys, hys, hyl⟩, hbut⟩ := hrel
        by_cases hlk : k < xs.length
        · have hcell := cell_of_row _ rx k _ _ _ hys.out
          rw [bv_get _ _ (by omega)] at hcell
          have hfro := frozen_of_row _ rx k _ _ hys.out
          have hnext := heap_setCell_same _ rx k _ _ (.int .u8 c) hys.out
          rw [bv_set] at hnext
          have HN := hid hnext
          clear hnext
          go_wp2
          exact ⟨⟨k + 1, by omega, by go_num, ⟨_, HN, by simpa using hyl⟩, hbut.setCell (.inl rfl) _⟩, by simp [intOf]; omega⟩
        · have hA8 := Arena.but hA7 hbut hx3 hx4
          have hB8 := Below.of_but hB7 hB7.size hbut hx1
          clear hA7 hB7 hbut hys hyl HW7
          go_wp2_with fail
          refine (read_ok b g m a xs.length _ hA8 hsp (by omega) (by rw [HL.out]; omega)).mono ?_
          rintro e w9 ⟨rfl, hr9, hb9, hs9⟩
          rw [Int.toNat_natCast, HC.out] at hr9
          rw [Int.toNat_natCast]
          have hB9 := Below.of_below hB8 hB8.size hb9
          have HR9 := hid hr9
          have hx5 : wr.heap.size < w9.heap.size := by omega
          clear hr9 hb9 hs9 hA8 hB8
          go_wp2_with fail
          refine (same_true xs wr.heap.size 0 xs.length s o cap _ (by omega) hx5 (by have := hB9.size; omega) (by
            intro k hk
            rw [cell_of_row _ _ _ _ _ _ HR9.out, Nat.zero_add, bv_get _ _ hk]) (fun k hk => (hB9.cell (p := ⟨s, o + k, none⟩) hs).trans (HS.out k hk))).mono ?_
          rintro e w10 ⟨rfl, hb10⟩
          have hB10 := Below.of_below hB9 hB9.size hb10
          go_wp2_with fail
          go_ret
          exact ⟨rfl, hB10⟩

theorem append_none (w : World) (a : Option Addr) (cap : Nat) :
    (Builtin.append_ #[32, 32] 32 #[.slice (some ⟨w.heap.size, 0, none⟩) 0 0, .slice a 0 cap]).run Try.prog (w.alloc (.cells #[] 5)) = .ok (.slice (some ⟨w.heap.size, 0, none⟩) 0 0) (w.alloc (.cells #[] 5)) := by
  obtain ⟨i, hi, hz, hsz, hb⟩ := info5x
  cases a with
  | none =>
    have hr := run_append_room_src (P := Try.prog) (w.alloc (.cells #[] 5)) 32 32 32 5 i Try.underlying32 hi w.heap.size 0 0 0 _ 0 [] (Src.ofNil _ Try.underlying32 cap) (by omega) (by simp) (by simp)
    simpa [World.setCells] using hr
  | some x =>
    have hr := run_append_room_src (P := Try.prog) (w.alloc (.cells #[] 5)) 32 32 32 5 i Try.underlying32 hi w.heap.size 0 0 0 _ 0 [] (Src.ofSlice _ Try.underlying32 x 0 cap [] (by simp) (by simp) (by simp)) (by omega) (by simp) (by simp)
    simpa [World.setCells] using hr

set_option maxHeartbeats 2000000 in
theorem core0 (a : Option Addr) (cap : Nat) (sp c : Int) (w : World) (hs0 : 0 ≤ sp) (hs1 : sp < 65536) :
    Calls Try.prog 7 #[.slice a 0 cap, .int .u16 sp, .int .u8 c] w fun e w' => e = .returned (.bool true) ∧ Below w.heap.size w w' := by
  go_enter Try.func7, Try.ntmps7
  go_wp2_with fail
  refine (alive_true _).mono ?_
  rintro e w1 ⟨rfl, hb1⟩
  go_wp2_with fail
  refine (new_64k _).mono ?_
  rintro e w2 ⟨b, g, rfl, hA2, hb2, hlb, hlg⟩
  have hB2 := Below.of_below hb1 hb1.size hb2
  have hlg' : w.heap.size ≤ g := Nat.le_trans hb1.size hlg
  clear hb1 hb2 hlb hlg
  have HR := hid (append_none w2 a cap)
  have hA3 := hA2.below ((Below.refl _ _).alloc (Nat.le_refl _) (.cells #[] 5))
  have hB3 := hB2.alloc hB2.size (.cells #[] 5)
  clear hA2 hB2
  go_wp2_with (at_builtin; refine wpList_append_run rfl _ _ 32 32 rfl _ _ _ rfl rfl HR.out ?_)
  clear HR
  have hsp : 0 ≤ sp % 64000 := by omega
  have hsp' : sp % 64000 < 64000 := by omega
  generalize sp % 64000 = p at *
  obtain ⟨n, rfl⟩ := Int.eq_ofNat_of_zero_le hsp
  refine (write_none b g (zeros 65536).length n _ 0 _ hA3.small (by rw [zeros_length]; omega) hA3.cell).mono ?_
  rintro e w4 ⟨rfl, rfl⟩
  go_wp2_with fail
  refine wp_loop_rounds 1 ?_
  rw [rounds_succ]
  go_wp2_with fail
  refine (read_ok b g (zeros 65536) n 0 _ hA3 hsp (by omega) (by rw [zeros_length]; omega)).mono ?_
  rintro e w5 ⟨rfl, hr5, hb5, hs5⟩
  rw [show (0 : Int).toNat = 0 from rfl]
  have hA5 := hA3.below hb5
  have hB5 := Below.of_below hB3 hB3.size hb5
  clear hr5 hb5 hs5 hA3 hB3
  go_wp2_with fail
  refine (same_zero _ _ _ _ _).mono ?_
  rintro e w6 ⟨rfl, rfl⟩
  go_wp2_with fail
  refine wp_loop_rounds 1 ?_
  rw [rounds_succ]
  go_wp2_with fail
  refine (read_ok b g (zeros 65536) n 0 _ hA5 hsp (by omega) (by rw [zeros_length]; omega)).mono ?_
  rintro e w7 ⟨rfl, hr7, hb7, hs7⟩
  rw [show (0 : Int).toNat = 0 from rfl]
  have hB7 := Below.of_below hB5 hB5.size hb7
  clear hr7 hb7 hs7 hA5 hB5
  go_wp2_with fail
  refine (same_zero _ _ _ _ _).mono ?_
  rintro e w8 ⟨rfl, rfl⟩
  go_wp2_with fail
  go_ret
  exact ⟨rfl, hB7⟩

theorem core_long (a : Option Addr) (len cap : Nat) (sp c : Int) (w : World) (hl : (1000 : Int) < len) :
    Calls Try.prog 7 #[.slice a len cap, .int .u16 sp, .int .u8 c] w fun e w' => e = .returned (.bool true) ∧ Below w.heap.size w w' := by
  go_enter Try.func7, Try.ntmps7
  go_wp2_with fail
  refine (alive_true _).mono ?_
  rintro e w1 ⟨rfl, hb1⟩
  go_wp2_with fail
  go_ret
  exact ⟨rfl, hb1⟩

theorem own : ownKnob Try.prog.godebug = none := by kernel_rfl
theorem laidOut : laidOutB Try.prog = true := by kernel_rfl

/-- WHAT THE WALK IS TOLD OF A SLICE OF INTEGERS THAT CAME IN: it is nil; or it leads to a row of 'cap' cells, the numbers 'zs' (the first 'len' are its elements, the rest its spare room), each fitting its kind. -/
def IsRow (k : IntKind) (w : World) (a : Option Addr) (len cap : Nat) (zs : List Int) : Prop :=
  (a = none ∧ len = 0 ∧ cap = 0 ∧ zs = []) ∨
  ∃ x, a = some x ∧ len ≤ cap ∧ cap ≤ maxLen ∧ zs.length = cap ∧ (∀ i, i < zs.length → w.cell? (x.add i) = some (.int k (zs.getD i 0))) ∧ ∀ n ∈ zs, (Lit.int k n).wf = true

theorem walk (a0 : Option Addr) (len0 cap0 : Nat) (z0 : List Int) (a1 : Int) (a2 : Int) (w : World) (w0 : IsRow .u8 w a0 len0 cap0 z0) (w1 : (Lit.int .u16 a1).wf = true) (_w2 : (Lit.int .u8 a2).wf = true) :
    Calls Try.prog 7 #[.slice a0 len0 cap0, .int .u16 a1, .int .u8 a2] w fun e w' => e = .returned (.bool true) ∧ Below w.heap.size w w' := by
  have b1 := bounds_u16 w1
  by_cases h0 : len0 = 0
  · subst h0
    exact core0 a0 cap0 a1 a2 w (by omega) (by omega)
  by_cases hl : (1000 : Int) < len0
  · exact core_long a0 len0 cap0 a1 a2 w hl
  rcases w0 with ⟨_, h, _, _⟩ | ⟨x, rfl, hlc, hm, hz, hcell, hwf⟩
  · exact absurd h h0
  obtain ⟨s, o, rfl, hc⟩ := ints_at hcell (by omega)
  have hlen : (z0.take len0).length = len0 := by simp; omega
  have hsrc : ∀ j, j < (z0.take len0).length → w.cell? ⟨s, o + j, none⟩ = some (.int .u8 ((z0.take len0)[j]?.getD 0)) := by
    intro j hj
    rw [hlen] at hj
    rw [hc j (by omega)]
    simp [List.getD, hj]
  have := core (z0.take len0) s o cap0 a1 a2 w (by omega) (by omega) (by omega) (by omega) (block_lt_of_cell (hsrc 0 (by omega))) hsrc (by
    intro i
    rw [List.getElem?_take]
    split
    · exact range_u8 hwf i
    · simp)
  rw [hlen] at this
  exact this

set_option maxRecDepth 100000 in
theorem lifted (os : Os) (started : os.Started) (H : Type) (enc : TypeId × Value → H) :
    ReturnsInHanded {} Try.checked os 7 .any (Rows.arenaOwnSpec.pre6 enc Try.prog Try.f7 Rows.arenaOwnRow.domain false) (Rows.arenaOwnSpec.post enc Try.prog Try.f7 false true false false) := by
  refine returnsInHanded_of_change (C := Try.checked) own started (by kernel_rfl) Try.func7
    (ChangeSpec.witness6 (enc := enc) (C := Try.checked) false ⟨#[], #[.slice none 0 0, .int .u16 0, .int .u8 0], []⟩ 8 (by kernel_rfl) (by kernel_rfl) (by kernel_rfl) (by kernel_rfl)) ?_
  intro W base args ds gs before hval0 hW hcnd _
  have hval : ∀ (j : Nat) t v, Try.f7.params[j]? = some t → args[j]? = some v → Value.okWide Try.prog W .any base t v := hval0
  have hW' := hW
  obtain ⟨p, q, hA0, hV, rfl, hfz, hnd⟩ := hW
  have hA : DataW.TrodAll enc Try.prog W 0 (fun _ => true) true Try.f7.params.toList args.toList ds p := hA0
  rw [Try.params7] at hA hval
  obtain ⟨v0, vs0, d0, ds0, p0, q0, hargs, rfl, rfl, h0, r0⟩ := trodAll_cons hA
  obtain ⟨v1, vs1, d1, ds1, p1, q1, rfl, rfl, rfl, h1, r1⟩ := trodAll_cons r0
  obtain ⟨v2, vs2, d2, ds2, p2, q2, rfl, rfl, rfl, h2, r2⟩ := trodAll_cons r1
  obtain ⟨rfl, rfl, rfl⟩ := trodAll_nil r2
  obtain rfl : args = #[v0, v1, v2] := by cases args; simp_all
  obtain ⟨rfl, rfl⟩ := trodVars_none hV
  obtain ⟨a0, len0, cap0, rfl⟩ := okWide_slice Try.underlying32 (hval 0 32 v0 rfl rfl)
  have k0 := h0
  have lt0 : ∀ x ∈ p0, x.block < W.heap.size := by obtain ⟨m, hm⟩ := k0; exact DataW.trod_lt m _ _ _ hm
  obtain ⟨z0, w0⟩ : ∃ zs, IsRow .u8 W a0 len0 cap0 zs := by
    obtain ⟨fuel, hf⟩ := h0
    rcases open_ints Try.underlying32 Try.underlying5 (by kernel_rfl) hf with ⟨hcs, _⟩ | ⟨x, l, c, zs, hcs, _, hl, hm, hz, _, hcell, hwz⟩
    · simp [Value.cells] at hcs
      obtain ⟨rfl, rfl, rfl⟩ := hcs
      exact ⟨[], .inl ⟨rfl, rfl, rfl, rfl⟩⟩
    · simp [Value.cells] at hcs
      obtain ⟨rfl, rfl, rfl⟩ := hcs
      exact ⟨zs, .inr ⟨_, rfl, hl, hm, by simpa using hz, hcell, hwz⟩⟩
  obtain ⟨a1, rfl, rfl, rfl, w1⟩ := open_int Try.underlying52 (hval 1 52 v1 rfl rfl) h1
  obtain ⟨a2, rfl, rfl, rfl, w2⟩ := open_int Try.underlying5 (hval 2 5 v2 rfl rfl) h2
  clear hA0 hval0
  refine (walk a0 len0 cap0 z0 a1 a2 W w0 w1 w2).mono fun e W' ⟨he, bel⟩ => ?_
  subst he
  exact ⟨_, rfl, _, _, _, [], _, [], hW', trodAll_mk1 (shut_bool Try.underlying4 _), (trodAll_cons_mk (Below.trod laidOut (by kernel_rfl) (of_decide_eq_true (by kernel_rfl)) k0 bel lt0) (trodAll_cons_mk (shut_int Try.underlying52 w1) (trodAll_cons_mk (shut_int Try.underlying5 w2) trodAll_mk0))), rfl, bel.frame _, fun h => by cases h⟩

theorem proved : Rows.ArenaOwnSaid :=
  OpenClaim.holds_of_wide 7 Try.f7 rfl rfl rfl rfl rfl rfl rfl ⟨rfl, rfl, rfl, rfl, rfl⟩ rfl rfl rfl rfl rfl (by kernel_rfl) Try.func7 (by kernel_rfl)
    (of_decide_eq_true (by kernel_rfl)) (by unfold Func.isWrapper; first | (rw [if_pos (by decide +kernel)]; kernel_rfl) | (rw [if_neg (by decide +kernel)]; exact ⟨rfl, rfl⟩))
    (fun os started H enc _ => lifted os started H enc)

end Go.Proofs.Ytaoahbobofdimaa.arenaOwn
