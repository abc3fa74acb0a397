/- The walk of GraceOnce. -/
import Derived.Test.YtgoennbbpndiiaaI
import Derived.Test.YtgoennbbpndiiaaM
namespace Go.Proofs.Ytgoennbbpndiiaa
open Go.RowKit Go.Maps Go.Shelf

/-- Bytes that came in. -/
def Bys (w : World) (B : Nat) (a : Option Addr) (ns : List Nat) : Prop := (∀ x ∈ ns, x ≤ 255) ∧ (ns.length = 0 ∨ ∃ s o, a = some ⟨s, o, none⟩ ∧ s < B ∧ ∀ j, j < ns.length → w.cell? ⟨s, o + j, none⟩ = some (.int .u8 ((ns[j]?.getD 0 : Nat) : Int)))
theorem Bys.at {w w' : World} {B j : Nat} {a : Option Addr} {ns : List Nat} (h : Bys w B a ns) (hb : Below B w w') (hj : j < ns.length) : ∃ s o, a = some ⟨s, o, none⟩ ∧ ns[j]?.getD 0 ≤ 255 ∧ w'.cell? ⟨s, o + j, none⟩ = some (.int .u8 ((ns[j]?.getD 0 : Nat) : Int)) := by
  rcases h.2 with h0 | ⟨s, o, rfl, hs, hc⟩
  · omega
  · exact ⟨s, o, rfl, by rw [List.getElem?_eq_getElem hj]; exact h.1 _ (List.getElem_mem hj), (hb.cell (p := ⟨s, o + j, none⟩) hs).trans (hc j hj)⟩

/-- The times at which things came. -/
def timeAt (C : List Int) (j : Nat) : Int := C[j]?.getD 0
/-- What stands between two ticks. -/
structure On (w0 w : World) (b : Nat) (v : Value) (p : Int) (vC : Value) (C : List Int) (now : Int) (d c : Nat) : Prop where
  gq : Gq w0 w b v p (ql (timeAt C) p now d c)
  row : OR w w0.heap.size 1 vC C.length (nums C)
  sep : ∀ g, vC.ownBlock = some g → ¬ Own b v g
  st : St (timeAt C) p now d c
namespace graceOnce

theorem core_long (pe : Nat) (a : Option Addr) (n cap : Nat) (w : World) (hl : (100 : Int) < (n : Int)) :
    Calls Try.prog 4 #[.int .u8 (pe : Int), .slice a n cap] w fun e w' => e = .returned (.bool true) ∧ Below w.heap.size w w' := by
  go_enter Try.func4, Try.ntmps4
  go_wp2_with (go_at_call 6; refine (alive_true _).mono ?_; rintro e w' ⟨rfl, hb⟩)
  go_ret
  exact ⟨rfl, hb⟩

set_option maxRecDepth 100000 in
set_option maxHeartbeats 4000000 in
theorem core (pe : Nat) (a : Option Addr) (ns : List Nat) (cap : Nat) (w : World) (hpe : pe < 256) (hA : Bys w w.heap.size a ns) (hl : (ns.length : Int) ≤ 100) :
    Calls Try.prog 4 #[.int .u8 (pe : Int), .slice a ns.length cap] w fun e w' => e = .returned (.bool true) ∧ Below w.heap.size w w' := by
  have HA := hid hA
  have hpe' : (pe : Int) < 256 := by omega
  clear hA
  go_enter Try.func4, Try.ntmps4
  go_wp2_with (go_at_call 6; refine (alive_true _).mono ?_; rintro e w1 ⟨rfl, hb1⟩; have HB1 := hid hb1; clear hb1)
  -- FROM HERE
  obtain ⟨p, hp⟩ : ∃ p, p = 1 + (pe : Int) % 16 := ⟨_, rfl⟩
  have hp1 : 1 ≤ p := by omega
  have hp16 : p ≤ 16 := by omega
  rw [← hp]
  clear hp
  refine (new_any p w1 hp1 hp16).mono ?_
  rintro e w2 ⟨rfl, ew⟩
  have hG := Gq.new w1 p
  rw [← ew] at hG
  have hs2 : w2.heap.size = w1.heap.size + 1 := by rw [ew]; simp
  have HG := hid (And.intro hG hs2)
  obtain ⟨i0, hi, hz0, hz1, hz2⟩ := info_parts info3
  have HI := hid (And.intro hi (And.intro hz0 (And.intro hz1 hz2)))
  clear ew hG hs2 hi hz0 hz1 hz2
  go_wp2_with (at_make; refine wpList_make_full _ rfl _ _ 29 rfl w2.heap.size 3 i0 (.int .i64 0) 1 Try.underlying29 HI.out.1 HI.out.2.1 HI.out.2.2.1 .i64 .i64 _ _ ns.length rfl rfl rfl rfl (by rw [HI.out.2.2.2]; omega) (by unfold maxLen; omega) (Nat.le_refl _) ?_; intro w3 hown3 hg3; have HO3 := hid (And.intro hown3 hg3); clear hown3 hg3)
  obtain ⟨gC, hgC⟩ : ∃ gC, gC = w2.heap.size := ⟨_, rfl⟩
  rw [← hgC] at HO3 ⊢
  have h3 : On w1 w3 w1.heap.size (.slice none 0 0) p (.slice (some ⟨gC, 0, none⟩) ns.length ns.length) (List.replicate ns.length 0) 0 0 0 := by
    have hr : OR w3 gC 1 (.slice (some ⟨gC, 0, none⟩) ns.length ns.length) ns.length (nums (List.replicate ns.length 0)) := by
      have := OR.of_owns HO3.out.1
      rw [show (madeCells (Value.int IntKind.i64 0).cells (ns.length * 1)).toList = nums (List.replicate ns.length 0) by
        rw [Nat.mul_one]; unfold madeCells nums; rw [List.map_replicate]; apply List.ext_getElem (by simp); intro i h1 h2; simp [Value.cells, Nat.mod_one]] at this
      exact this
    refine ⟨?_, ?_, fun g e => ?_, ⟨Nat.le_refl _, fun j hj => by omega, fun i j _ hj => by omega, fun j _ hj => by omega⟩⟩
    · rw [ql_none]
      exact HG.out.1.below ⟨HO3.out.2.os, HO3.out.2.tape, HO3.out.2.output, HO3.out.2.size, fun k hk => HO3.out.2.block k hk (by simp)⟩
    · have := hr.low (base' := w1.heap.size) (by rw [hgC, HG.out.2]; omega)
      rw [List.length_replicate]; exact this
    · obtain rfl : gC = g := by simpa [Value.ownBlock] using e
      rintro (h1 | h1)
      · have := HG.out.2; omega
      · cases h1
  have H3 := hid h3
  clear h3 HO3 HI HG hgC
  go_wp2_with fail
  go_loopw [8, 9, 10] (fun nv dv iv wr => ∃ (i now d : Nat) (v : Value) (C : List Int), i ≤ ns.length + 20 ∧ nv = .int .i64 (now : Int) ∧ dv = .int .i64 (d : Int) ∧ iv = .int .i64 (i : Int) ∧ C.length = ns.length ∧ now ≤ 4 * i ∧ d ≤ 100 ∧
      Hid (On w1 wr w1.heap.size v p (.slice (some ⟨gC, 0, none⟩) ns.length ns.length) C (now : Int) d (min i ns.length)) ∧ Hid (∀ j, j < ns.length → ns.length ≤ i → timeAt C j + ((i : Int) - (ns.length : Int)) ≤ (now : Int))) (fun _ _ iv _ => ns.length + 20 - (intOf iv).toNat)
  case atStart => exact ⟨0, 0, 0, _, _, Nat.zero_le _, rfl, rfl, rfl, List.length_replicate, Nat.le_refl _, Nat.zero_le _, hid (by rw [Nat.zero_min]; exact H3.out), hid (fun j hj h0 => by omega)⟩
  case round =>
    obtain ⟨i, now, d, v, C, hi, rfl, rfl, rfl, hC, hnow, hd100, H4, H4b⟩ := hrel
    clear H3
    have hi' : (i : Int) ≤ (ns.length : Int) + 20 := by omega
    have hnow' : (now : Int) ≤ 4 * (i : Int) := by omega
    by_cases hin : i < ns.length
    · have hin' : (i : Int) < (ns.length : Int) := by omega
      have hin2 : (i : Int) < (ns.length : Int) + 20 := by omega
      rw [Nat.min_eq_left (Nat.le_of_lt hin)] at H4
      obtain ⟨s0, o0, rfl, hby, cby⟩ := HA.out.at (HB1.out.trans (H4.out.gq.bel.mono HB1.out.size)) hin
      go_wp2_with fail
      have hA4 := heap_alloc_new wr (.cells #[.int .i64 (i : Int)] 3)
      have hb4 : Below wr.heap.size wr (wr.alloc (.cells #[.int .i64 (i : Int)] 3)) := (Below.refl _ _).alloc (Nat.le_refl _) _
      have hq4 := H4.out.gq.below hb4
      refine (add_any hq4.qu _ [(i : Int)] (src_one hA4 (fun h => by have := (H4.out.gq.qu.lt h).2; omega) 1) (by rw [ql_len]; simp; omega)).mono ?_
      rintro e w4 ⟨rfl, v4, hL4⟩
      have hrow4 := H4.out.row.below hb4 (Nat.le_refl _)
      have hk4 : ∀ g, (Value.slice (some ⟨gC, 0, none⟩) ns.length ns.length).ownBlock = some g → w4.heap[g]? = (wr.alloc (.cells #[.int .i64 (i : Int)] 3)).heap[g]? ∧ ¬ Own w1.heap.size v4 g := fun g e => hL4.keep (hrow4.own g e).2 (H4.out.sep g e)
      have hrow4' := hrow4.other hL4.turn.size (fun g e => (hk4 g e).1)
      have hgCo := (hk4 gC rfl).2
      have hG4 := hq4.left hL4
      rw [hC] at hrow4'
      obtain ⟨hset, hfr⟩ := OR.set (u := .int .i64 (now : Int)) hrow4' i (by omega)
      rw [Nat.zero_add] at hset hfr
      have hcell4 : ∃ u, w4.cell? ⟨gC, i, none⟩ = some u := by
        obtain ⟨g', o', e', _, hc'⟩ := hrow4'.at (nums_at (k := i) (x := timeAt C i) (by unfold timeAt; rw [List.getElem?_eq_getElem (by omega)]; rfl))
        obtain ⟨rfl, rfl⟩ : gC = g' ∧ 0 = o' := by simpa using e'
        rw [Nat.zero_add] at hc'
        exact ⟨_, hc'⟩
      obtain ⟨u4c, hcell4⟩ := hcell4
      have hC5 : (C.set i (now : Int)).length = ns.length := by rw [List.length_set]; exact hC
      have hto : ∀ j, j < i → timeAt (C.set i (now : Int)) j = timeAt C j := fun j hj => by unfold timeAt; rw [List.getElem?_set_ne (by omega)]
      have htc : timeAt (C.set i (now : Int)) i = (now : Int) := by unfold timeAt; rw [List.getElem?_set_self (by omega)]; rfl
      have h5 : On w1 (w4.setCell ⟨gC, i, none⟩ (.int .i64 (now : Int))) w1.heap.size v4 p (.slice (some ⟨gC, 0, none⟩) ns.length ns.length) (C.set i (now : Int)) (now : Int) d (i + 1) := by
        have hgCs := (hrow4'.own gC rfl)
        refine ⟨?_, ?_, fun g e => (hk4 g e).2, H4.out.st.add hp1 htc hto⟩
        · rw [ql_add H4.out.st.le htc hto]
          exact ⟨hG4.qu.same (by simp) (fun k hk => Below.heap_setCell _ _ _ _ (fun e => hgCo ((show k = gC from e) ▸ hk))), hG4.bel.setCell (p := ⟨gC, i, none⟩) hgCs.1 _, hG4.le⟩
        · rw [hC5]
          have e : nums (C.set i (now : Int)) = (nums C).set i (.int .i64 (now : Int)) := by unfold nums; rw [List.map_set]
          rw [e]; exact hset
      have H5 := hid h5
      have hcn : i + 1 ≤ 100 := by omega
      obtain ⟨s1, o1, e1, _, cby5⟩ := HA.out.at (j := i) (HB1.out.trans (h5.gq.bel.mono HB1.out.size)) hin
      obtain ⟨rfl, rfl⟩ : s0 = s1 ∧ o0 = o1 := by simpa using e1
      generalize ns[i]?.getD 0 = y at *
      obtain ⟨t, ht⟩ : ∃ t : Nat, t = y % 4 := ⟨_, rfl⟩
      have hty : (y : Int) % 4 = (t : Int) := by omega
      have ht4 : t ≤ 3 := by omega
      have hy' : (y : Int) ≤ 255 := by omega
      clear hA4 hb4 hq4 hL4 hrow4 hk4 hrow4' hgCo hG4 hset hto htc h5 H4 H4b cby ht hby e1
      go_wp2_with fail
      go_loopw [8, 9, 12] (fun nv dv kv wr => ∃ (k now2 d2 : Nat) (v2 : Value), k ≤ t ∧ nv = .int .i64 (now2 : Int) ∧ dv = .int .i64 (d2 : Int) ∧ kv = .int .i64 (k : Int) ∧ now2 = now + k ∧ d2 ≤ 100 ∧ Hid (On w1 wr w1.heap.size v2 p (.slice (some ⟨gC, 0, none⟩) ns.length ns.length) (C.set i (now : Int)) (now2 : Int) d2 (i + 1))) (fun _ _ kv _ => t - (intOf kv).toNat)
      case atStart => exact ⟨0, now, d, _, Nat.zero_le _, rfl, rfl, rfl, rfl, hd100, H5⟩
      case round =>
        obtain ⟨k, now2, d2, v2, hk, rfl, rfl, rfl, hnow2, hd2, H6⟩ := hrel
        clear H5
        by_cases hkt : k < t
        · have hkt2 : (k : Int) < (t : Int) := by omega
          obtain ⟨mm, hSt, hdue, hrest, hat⟩ := St.tick H6.out.st
          have htk := tick_any H6.out.gq.qu (by rw [ql_len]; have := hcn; omega) (ql_bound H6.out.st hp16)
          unfold TickPost at htk
          rw [hdue, hrest] at htk
          have HTK := hid htk
          clear htk hdue hrest
          go_wp2_with fail
          refine HTK.out.mono ?_
          rintro e w7 ⟨u7, v7, rfl, hr7, hL7, _⟩
          have H7 : Hid (On w1 w7 w1.heap.size v7 p (.slice (some ⟨gC, 0, none⟩) ns.length ns.length) (C.set i (now : Int)) ((now2 + 1 : Nat) : Int) (d2 + mm) (i + 1)) := hid ⟨H6.out.gq.left hL7, H6.out.row.other hL7.turn.size (fun g e => (hL7.keep (H6.out.row.own g e).2 (H6.out.sep g e)).1), fun g e => (hL7.keep (H6.out.row.own g e).2 (H6.out.sep g e)).2, hSt⟩
          have hmm : d2 + mm ≤ 100 := by have := hSt.le; have := hcn; omega
          have hlen7 : (List.map (fun (j : Nat) => (j : Int)) (List.range' d2 mm)).length = mm := by simp
          rw [hlen7] at hr7
          obtain ⟨a7, cap7, rfl, _⟩ := hr7.slice
          have HR7 := hid hr7
          have HAT := hid hat
          have HSt := hid hSt
          clear hr7 hL7 hlen7 hat hSt H6 HTK
          go_wp2_with fail
          go_loop [9, 14] (fun dv mv => ∃ m : Nat, m ≤ mm ∧ mv = .int .i64 (m : Int) ∧ dv = .int .i64 ((d2 + m : Nat) : Int)) (fun _ mv => mm - (intOf mv).toNat)
          case atStart => exact ⟨0, Nat.zero_le _, rfl, rfl⟩
          case round =>
            obtain ⟨m, hm, rfl, rfl⟩ := hrel
            by_cases hmt : m < mm
            · obtain ⟨g7, o7, rfl, _, c7⟩ := HR7.out.at (nums_at (k := m) (x := ((d2 + m : Nat) : Int)) (by rw [List.getElem?_map, List.getElem?_range' hmt]; simp))
              have hdm : d2 + m < ns.length := by have := HSt.out.le; have := hcn; omega
              obtain ⟨gx, ox, ex, _, c8⟩ := H7.out.row.at (nums_at (k := d2 + m) (x := timeAt (C.set i (now : Int)) (d2 + m)) (by unfold timeAt; rw [List.getElem?_eq_getElem (by omega)]; rfl))
              obtain ⟨rfl, rfl⟩ : gC = gx ∧ 0 = ox := by simpa using ex
              rw [Nat.zero_add] at c8
              have hnm : ((now2 : Int) + 1 != timeAt (C.set i (now : Int)) (d2 + m) + p) = false := by
                have := HAT.out (d2 + m) (by omega) (by omega)
                rw [bne_eq_false_iff_eq]; omega
              have htm : -100 ≤ timeAt (C.set i (now : Int)) (d2 + m) ∧ timeAt (C.set i (now : Int)) (d2 + m) ≤ 1000 := by
                have h1 := HAT.out (d2 + m) (by omega) (by omega)
                omega
              have hdm' : (d2 : Int) + (m : Int) < (ns.length : Int) := by omega
              obtain ⟨ht0, ht5⟩ := htm
              generalize timeAt (C.set i (now : Int)) (d2 + m) = tm at *
              go_wp2_with fail
              exact ⟨⟨m + 1, by omega, by go_num, by go_num⟩, by simp [intOf]; omega⟩
            · obtain rfl : m = mm := by omega
              go_wp2_with fail
              first
                | exact ⟨⟨k + 1, now2 + 1, d2 + m, v7, by omega, by subst hnow2; go_num, by go_num, by go_num, by omega, hmm, H7⟩, by simp [intOf]; omega⟩
                | exact ⟨⟨_, _, _, _, ⟨k + 1, by omega, now2 + 1, by subst hnow2; go_num, d2 + m, by go_num, by go_num, by omega, hmm, v7, H7⟩, rfl, rfl, rfl, rfl⟩, by simp [intOf]; omega⟩
        · obtain rfl : k = t := by omega
          go_wp2_with fail
          have hfin : ∀ j, j < ns.length → ns.length ≤ i + 1 → timeAt (C.set i (now : Int)) j + (((i + 1 : Nat) : Int) - (ns.length : Int)) ≤ ((now2 : Nat) : Int) := fun j h1 h2 => by
            have := H6.out.st.past j (by omega)
            omega
          have hmin : min (i + 1) ns.length = i + 1 := Nat.min_eq_left hin
          rw [← hmin] at H6
          exact ⟨⟨i + 1, now2, d2, v2, _, by omega, rfl, rfl, by go_num, hC5, by omega, hd2, H6, hid hfin⟩, by simp [intOf]; omega⟩
    · have hin' : ¬ ((i : Int) < (ns.length : Int)) := by omega
      have hin3 : (ns.length : Int) ≤ (i : Int) := by omega
      rw [Nat.min_eq_right (by omega)] at H4
      by_cases hie : i < ns.length + 20
      · have hin2 : (i : Int) < (ns.length : Int) + 20 := by omega
        have hcn : ns.length ≤ 100 := by omega
        have H5 := H4
        clear H4
        go_wp2_with fail
        go_loopw [8, 9, 12] (fun nv dv kv wr => ∃ (k now2 d2 : Nat) (v2 : Value), k ≤ 1 ∧ nv = .int .i64 (now2 : Int) ∧ dv = .int .i64 (d2 : Int) ∧ kv = .int .i64 (k : Int) ∧ now2 = now + k ∧ d2 ≤ 100 ∧ Hid (On w1 wr w1.heap.size v2 p (.slice (some ⟨gC, 0, none⟩) ns.length ns.length) C (now2 : Int) d2 ns.length)) (fun _ _ kv _ => 1 - (intOf kv).toNat)
        case atStart => exact ⟨0, now, d, _, Nat.zero_le _, rfl, rfl, rfl, rfl, hd100, H5⟩
        case round =>
          obtain ⟨k, now2, d2, v2, hk, rfl, rfl, rfl, hnow2, hd2, H6⟩ := hrel
          clear H5
          by_cases hkt : k < 1
          · have hkt2 : (k : Int) < ((1 : Nat) : Int) := by omega
            obtain ⟨mm, hSt, hdue, hrest, hat⟩ := St.tick H6.out.st
            have htk := tick_any H6.out.gq.qu (by rw [ql_len]; have := hcn; omega) (ql_bound H6.out.st hp16)
            unfold TickPost at htk
            rw [hdue, hrest] at htk
            have HTK := hid htk
            clear htk hdue hrest
            go_wp2_with fail
            refine HTK.out.mono ?_
            rintro e w7 ⟨u7, v7, rfl, hr7, hL7, _⟩
            have H7 : Hid (On w1 w7 w1.heap.size v7 p (.slice (some ⟨gC, 0, none⟩) ns.length ns.length) C ((now2 + 1 : Nat) : Int) (d2 + mm) ns.length) := hid ⟨H6.out.gq.left hL7, H6.out.row.other hL7.turn.size (fun g e => (hL7.keep (H6.out.row.own g e).2 (H6.out.sep g e)).1), fun g e => (hL7.keep (H6.out.row.own g e).2 (H6.out.sep g e)).2, hSt⟩
            have hmm : d2 + mm ≤ 100 := by have := hSt.le; have := hcn; omega
            have hlen7 : (List.map (fun (j : Nat) => (j : Int)) (List.range' d2 mm)).length = mm := by simp
            rw [hlen7] at hr7
            obtain ⟨a7, cap7, rfl, _⟩ := hr7.slice
            have HR7 := hid hr7
            have HAT := hid hat
            have HSt := hid hSt
            clear hr7 hL7 hlen7 hat hSt H6 HTK
            go_wp2_with fail
            go_loop [9, 14] (fun dv mv => ∃ m : Nat, m ≤ mm ∧ mv = .int .i64 (m : Int) ∧ dv = .int .i64 ((d2 + m : Nat) : Int)) (fun _ mv => mm - (intOf mv).toNat)
            case atStart => exact ⟨0, Nat.zero_le _, rfl, rfl⟩
            case round =>
              obtain ⟨m, hm, rfl, rfl⟩ := hrel
              by_cases hmt : m < mm
              · obtain ⟨g7, o7, rfl, _, c7⟩ := HR7.out.at (nums_at (k := m) (x := ((d2 + m : Nat) : Int)) (by rw [List.getElem?_map, List.getElem?_range' hmt]; simp))
                have hdm : d2 + m < ns.length := by have := HSt.out.le; have := hcn; omega
                obtain ⟨gx, ox, ex, _, c8⟩ := H7.out.row.at (nums_at (k := d2 + m) (x := timeAt C (d2 + m)) (by unfold timeAt; rw [List.getElem?_eq_getElem (by omega)]; rfl))
                obtain ⟨rfl, rfl⟩ : gC = gx ∧ 0 = ox := by simpa using ex
                rw [Nat.zero_add] at c8
                have hnm : ((now2 : Int) + 1 != timeAt C (d2 + m) + p) = false := by
                  have := HAT.out (d2 + m) (by omega) (by omega)
                  rw [bne_eq_false_iff_eq]; omega
                have htm : -100 ≤ timeAt C (d2 + m) ∧ timeAt C (d2 + m) ≤ 1000 := by
                  have h1 := HAT.out (d2 + m) (by omega) (by omega)
                  omega
                have hdm' : (d2 : Int) + (m : Int) < (ns.length : Int) := by omega
                obtain ⟨ht0, ht5⟩ := htm
                generalize timeAt C (d2 + m) = tm at *
                go_wp2_with fail
                exact ⟨⟨m + 1, by omega, by go_num, by go_num⟩, by simp [intOf]; omega⟩
              · obtain rfl : m = mm := by omega
                go_wp2_with fail
                first
                  | exact ⟨⟨k + 1, now2 + 1, d2 + m, v7, by omega, by subst hnow2; go_num, by go_num, by go_num, by omega, hmm, H7⟩, by simp [intOf]; omega⟩
                  | exact ⟨⟨_, _, _, _, ⟨k + 1, by omega, now2 + 1, by subst hnow2; go_num, d2 + m, by go_num, by go_num, by omega, hmm, v7, H7⟩, rfl, rfl, rfl, rfl⟩, by simp [intOf]; omega⟩
          · obtain rfl : k = 1 := by omega
            go_wp2_with fail
            have hfin : ∀ j, j < ns.length → ns.length ≤ i + 1 → timeAt C j + (((i + 1 : Nat) : Int) - (ns.length : Int)) ≤ ((now2 : Nat) : Int) := fun j h1 h2 => by
              have := H4b.out j h1 (by omega)
              omega
            have hmin : min (i + 1) ns.length = ns.length := Nat.min_eq_right (by omega)
            exact ⟨⟨i + 1, now2, d2, v2, _, by omega, rfl, rfl, by go_num, hC, by omega, hd2, by rw [hmin]; exact H6, hid hfin⟩, by simp [intOf]; omega⟩
      · obtain rfl : i = ns.length + 20 := by omega
        have hie2 : ((ns.length + 20 : Nat) : Int) = (ns.length : Int) + 20 := by omega
        obtain rfl : d = ns.length := by
          have hle := H4.out.st.le
          rcases Nat.lt_or_ge d ns.length with h | h
          · have h1 := H4.out.st.wait d (Nat.le_refl _) h
            have h2 := H4b.out d h (by omega)
            omega
          · omega
        have H5 := H4
        clear H4 H4b hi hi' hnow hnow'
        go_wp2_with fail
        refine (alive_true _).mono ?_
        rintro e w6 ⟨rfl, hb6⟩
        have H6 : Hid (Gq w1 w6 w1.heap.size v p []) := hid (by
          have := H5.out.gq.below hb6
          rwa [ql_none] at this)
        clear hb6 H5
        go_wp2_with fail
        refine (list_any H6.out.qu (by decide)).mono ?_
        rintro e w7 ⟨u7, rfl, hr7, hb7⟩
        obtain ⟨a7, cap7, rfl, _⟩ := hr7.slice
        have HB : Hid (Below w1.heap.size w1 w7) := hid (H6.out.below hb7).bel
        rw [show (List.map (fun x : Int × Int => x.1) []).length = 0 from rfl]
        clear hr7 hb7
        go_wp2_with fail
        go_ret
        exact ⟨rfl, Below.of_below HB1.out HB1.out.size HB.out⟩
end graceOnce
end Go.Proofs.Ytgoennbbpndiiaa
