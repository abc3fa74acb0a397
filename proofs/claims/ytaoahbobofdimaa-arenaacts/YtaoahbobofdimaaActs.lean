/- For every size and every list of acts: whatever is loaded, stored, read, written and filled, the arena's words, bytes and errors are the document's all along: ArenaActs returns true. Conditions: none. -/
import Derived.Test.YtaoahbobofdimaaO
import Derived.ProofKit
import Derived.OpenShut
import Derived.ShutString
import Derived.ChangeOld
import Derived.Deep.Slices
import Derived.Deep.RegionHeld
namespace Go.Proofs.Ytaoahbobofdimaa.arenaActs
open Go.ChangeShapes Go.WideShapes Go.ChangeAt Go.RowKit Go.Proofs.Ytaoahbobofdimaa

set_option maxRecDepth 100000 in
set_option maxHeartbeats 2000000 in
theorem core_nil (size : Int) (a : Option Addr) (len cap : Nat) (w : World) (hA : Acts w w.heap.size a len) (hm : ∀ k : Nat, k ≤ 14 → size ≠ 65536 * 2 ^ k) :
    Calls Try.prog 3 #[.int .i64 size, .slice a len cap] w fun e w' => e = .returned (.bool true) ∧ Below w.heap.size w w' := by
  have HM := hid hm
  clear hm
  go_enter Try.func3, Try.ntmps3
  go_wp2_with fail
  refine (alive_true _).mono ?_
  rintro e w1 ⟨rfl, hb1⟩
  go_wp2_with fail
  refine (few_any size a len cap w.heap.size _ (hA.below hb1)).mono ?_
  rintro e w2 ⟨f, rfl, rfl, hf⟩
  cases f
  · clear hf
    go_wp2_with fail
    go_ret
    exact ⟨rfl, hb1⟩
  obtain ⟨hf1, hf2, hf3⟩ := hf rfl
  clear hf hf3
  have HF := hid hf2
  clear hf2
  go_wp2_with fail
  refine (new_nil size _ HF.out HM.out).mono ?_
  rintro e w3 ⟨rfl, rfl⟩
  go_wp2_with fail
  refine (may_any size _).mono ?_
  rintro e w4 ⟨f, rfl, rfl, hf⟩
  obtain rfl : f = false := by
    cases f
    · rfl
    · obtain ⟨k, hk, he⟩ := hf.1 rfl
      exact absurd he (HM.out k hk)
  clear hf
  go_wp2_with (first | (go_at_call 12; refine (load_nil _ _).mono ?_; rintro e w' ⟨rfl, rfl⟩) | (go_at_call 13; refine (read_nil _ _ _).mono ?_; rintro e w' ⟨rfl, rfl⟩) | (go_at_call 14; refine (size_nil _).mono ?_; rintro e w' ⟨rfl, rfl⟩) | (go_at_call 15; refine (store_nil _ _ _ _ _).mono ?_; rintro e w' ⟨rfl, rfl⟩) | (go_at_call 16; refine (write_nil _ _ _ _ _).mono ?_; rintro e w' ⟨rfl, rfl⟩) | (go_at_call 17; refine (fill_nil _ _ _ _).mono ?_; rintro e w' ⟨rfl, rfl⟩))
  go_ret
  exact ⟨rfl, hb1⟩

set_option maxRecDepth 100000 in
set_option maxHeartbeats 2000000 in
theorem core_may (size : Int) (a : Option Addr) (len cap : Nat) (w : World) (hA : Acts w w.heap.size a len) (hm : ∃ k : Nat, k ≤ 14 ∧ size = 65536 * 2 ^ k) :
    Calls Try.prog 3 #[.int .i64 size, .slice a len cap] w fun e w' => e = .returned (.bool true) ∧ Below w.heap.size w w' := by
  have HM := hid hm
  clear hm
  go_enter Try.func3, Try.ntmps3
  go_wp2_with fail
  refine (alive_true _).mono ?_
  rintro e w1 ⟨rfl, hb1⟩
  go_wp2_with fail
  refine (few_any size a len cap w.heap.size _ (hA.below hb1)).mono ?_
  rintro e w2 ⟨f, rfl, rfl, hf⟩
  cases f
  · clear hf
    go_wp2_with fail
    go_ret
    exact ⟨rfl, hb1⟩
  obtain ⟨hf1, hf2, hf3⟩ := hf rfl
  clear hf
  have HF := hid hf3
  obtain ⟨n, rfl, hn1, hn2, hnew⟩ := new_may size w2 hf2 HM.out
  clear hf2 hf3
  have HNew := hid hnew
  clear hnew
  go_wp2_with fail
  refine HNew.out.mono ?_
  rintro e w3 ⟨b, g, rfl, hA3, hb3, hlb, hlg⟩
  clear HNew
  have hB3 := Below.of_below hb1 hb1.size hb3
  go_wp2_with fail
  refine (may_any n _).mono ?_
  rintro e w4 ⟨f, rfl, rfl, hf⟩
  obtain rfl : f = true := by
    cases f
    · obtain ⟨k, hk, he⟩ := HM.out
      exact absurd he (hf.2 rfl k hk)
    · rfl
  clear hf HM
  go_wp2_with fail
  refine (rnew_ok n _ hn1 (by omega)).mono ?_
  rintro e w5 ⟨b', g', rfl, hR5, hb5, hlb', hlg'⟩
  have hA5 := hA3.below hb5
  have hB5 := Below.of_below hB3 hB3.size hb5
  have hlt3 := hA3.lt
  have hu := hR5.unlike
  have hs1 := hb1.size
  have hs3 := hb3.size
  have d1 : g ≠ g' := by omega
  have d2 : b ≠ g' := by omega
  have d3 : b' ≠ g := by omega
  have d4 : w.heap.size ≤ g := by omega
  have d5 : w.heap.size ≤ g' := by omega
  have hsh : Hid (Short w a len) := by
    intro s o i p q l b lc bc he hi hc3 hc4
    rcases hA with h0 | ⟨s', o', he', hs', _⟩
    · omega
    · rw [he'] at he
      obtain ⟨rfl, rfl⟩ : s' = s ∧ o' = o := by simpa using he
      exact HF.out s' o' i p q l b lc bc he' hi ((hb1.cell (p := ⟨s', o' + i * 6 + 3, none⟩) hs').trans hc3) ((hb1.cell (p := ⟨s', o' + i * 6 + 4, none⟩) hs').trans hc4)
  have hact := hid hA
  have hAR : ∃ m : List Int, m.length = n ∧ Hid (Arena w5 b g m ∧ Ref w5 b' g' m) := ⟨_, zeros_length n, hA5, hR5⟩
  have hlen : (len : Int) ≤ 60 := by omega
  clear hA hb1 hf1 HF hA3 hb3 hlb hlg hB3 hR5 hb5 hlb' hlg' hA5 hlt3 hu hs1 hs3
  go_wp2_with fail
  go_loopw [11] (fun i wr => ∃ k : Nat, k ≤ len ∧ i = .int .i64 k ∧ (∃ m : List Int, m.length = n ∧ Hid (Arena wr b g m ∧ Ref wr b' g' m)) ∧ Below w.heap.size w wr) (fun i _ => len - (intOf i).toNat)
  case atStart => exact ⟨0, Nat.zero_le _, rfl, hAR, hB5⟩
  case round =>
    obtain ⟨k, hk, rfl, ⟨m, hml, hAR'⟩, hBr⟩ := hrel
    clear hAR hB5
    by_cases hlt : k < len
    · rcases hact.out with h0 | ⟨s, o, rfl, hs, hx⟩
      · omega
      obtain ⟨x, hx⟩ := hx k hlt
      have hsm := hsh.out s o k _ _ _ _ _ _ rfl hlt hx.c3 hx.c4
      have hxr := hx.below hs hBr
      have c0 := hxr.c0
      have c1 := hxr.c1
      have c2 := hxr.c2
      have c3 := hxr.c3
      have c4 := hxr.c4
      have c5 := hxr.c5
      have HX := hid hx
      have hs0 := hBr.size
      have HA0 := hid (hAR'.out.1.below ((Below.refl _ _).alloc (Nat.le_refl _) (.cells #[.int .i64 x.kind, .int .i64 x.at_, .int .i64 x.n, .slice x.lp x.l.length x.lc, .slice x.bp x.b.length x.bc, .int .u8 x.c] 43)))
      have HR0 := hid (hAR'.out.2.below ((Below.refl _ _).alloc (Nat.le_refl _) (.cells #[.int .i64 x.kind, .int .i64 x.at_, .int .i64 x.n, .slice x.lp x.l.length x.lc, .slice x.bp x.b.length x.bc, .int .u8 x.c] 43)))
      have hB0 := hBr.alloc hBr.size (.cells #[.int .i64 x.kind, .int .i64 x.at_, .int .i64 x.n, .slice x.lp x.l.length x.lc, .slice x.bp x.b.length x.bc, .int .u8 x.c] 43)
      have HT0 : Hid ((wr.alloc (.cells #[.int .i64 x.kind, .int .i64 x.at_, .int .i64 x.n, .slice x.lp x.l.length x.lc, .slice x.bp x.b.length x.bc, .int .u8 x.c] 43)).heap[wr.heap.size]? = some (.cells #[.int .i64 x.kind, .int .i64 x.at_, .int .i64 x.n, .slice x.lp x.l.length x.lc, .slice x.bp x.b.length x.bc, .int .u8 x.c] 43)) := heap_alloc_new _ _
      have hgl := hAR'.out.1.lt.2
      have hgl' := hAR'.out.2.lt.2
      clear hx hxr hBr hAR'
      by_cases q0 : (x.kind == 0) = true
      · as_aux_lemma =>
        go_wp2_with fail
        refine (load_all b g m x.at_ _ HA0.out HX.out.near).mono ?_
        rintro e w6 ⟨rfl, hb6⟩
        have HA6 := hid (HA0.out.below hb6)
        have HR6 := hid (HR0.out.below hb6)
        have hB6 := Below.of_below hB0 hB0.size hb6
        have hc6 : w6.cell? ⟨wr.heap.size, 1, none⟩ = some (.int .i64 x.at_) := by
          rw [cell_of_row _ _ _ _ _ _ ((hb6.block _ (by simp)).trans HT0.out)]; rfl
        clear HA0 HR0 hB0 HT0 hb6
        go_wp2_with fail
        refine (rload_all b' g' m x.at_ _ HR6.out).mono ?_
        rintro e w7 ⟨rfl, rfl⟩
        go_wp2_with (go_at_call 14; refine (size_cell b g m.length _ HA6.out.cell).mono ?_; rintro e w8 ⟨rfl, rfl⟩; rw [hml])
        exact ⟨⟨k + 1, by omega, by go_num, ⟨m, hml, HA6.out, HR6.out⟩, hB6⟩, by simp [intOf]; omega⟩
      rw [Bool.not_eq_true] at q0
      by_cases q1 : (x.kind == 1) = true
      · as_aux_lemma =>
        go_wp2_with fail
        go_region_held (fun wx => wx.cell? ⟨wr.heap.size, 1, none⟩ = some (.int .i64 x.at_) ∧ wx.cell? ⟨wr.heap.size, 3, none⟩ = some (.slice x.lp x.l.length x.lc)) (first | exact ⟨hc1, hc3⟩ | go_keep)
          (first
            | (go_at_call 15; refine (store_all b g m x.l x.at_ x.lp x.lc w.heap.size _ HA0.out.drew HX.out.near hsm.1 d4 hB0.drew.size (HX.out.words.below hB0.drew) HX.out.word).mono ?_; rintro e w6 ⟨rfl, hA6, hb6⟩
               have hc1 : w6.cell? ⟨wr.heap.size, 1, none⟩ = some (.int .i64 x.at_) := by
                 rw [cell_of_row _ _ _ _ _ _ ((hb6.block _ (by simp) (by omega)).trans HT0.out)]; rfl
               have hc3 : w6.cell? ⟨wr.heap.size, 3, none⟩ = some (.slice x.lp x.l.length x.lc) := by
                 rw [cell_of_row _ _ _ _ _ _ ((hb6.block _ (by simp) (by omega)).trans HT0.out)]; rfl)
            | (go_at_call 20; refine (rstore_all b' g' m x.l x.at_ x.lp x.lc w.heap.size _ (HR0.out.drew.but hb6 d3 (Ne.symm d1)) hsm.1 d5 (Below.of_but hB0.drew hB0.drew.size hb6 d4).size (HX.out.words.below (Below.of_but hB0.drew hB0.drew.size hb6 d4)) HX.out.word).mono ?_; rintro e w7 ⟨rfl, hR7, hb7⟩
               have hc1 : w7.cell? ⟨wr.heap.size, 1, none⟩ = some (.int .i64 x.at_) := by
                 rw [World.cell?_of_block (w := w6) (hb7.block _ (block_lt_of_cell hc1) (by show wr.heap.size ≠ _; omega))]; exact hc1
               have hc3 : w7.cell? ⟨wr.heap.size, 3, none⟩ = some (.slice x.lp x.l.length x.lc) := by
                 rw [World.cell?_of_block (w := w6) (hb7.block _ (block_lt_of_cell hc3) (by show wr.heap.size ≠ _; omega))]; exact hc3))
        have hA7 := hA6.but hb7 d2 d1
        have hB7 := Below.of_but (Below.of_but hB0.drew hB0.drew.size hb6 d4) (Below.of_but hB0.drew hB0.drew.size hb6 d4).size hb7 d5
        have hml' : (storeMem m x.at_ x.l).length = n := by rw [storeMem_length, hml]
        have HA7 := hid hA7
        clear hA7 hA6 hb6 hb7 HA0 HR0 HT0 hB0
        go_wp2_with (go_at_call 14; refine (size_cell b g (storeMem m x.at_ x.l).length _ HA7.out.cell).mono ?_; rintro e w8 ⟨rfl, rfl⟩; rw [hml'])
        exact ⟨⟨k + 1, by omega, by go_num, ⟨storeMem m x.at_ x.l, hml', HA7.out, hR7⟩, hB7⟩, by simp [intOf]; omega⟩
      rw [Bool.not_eq_true] at q1
      by_cases q2 : (x.kind == 2) = true
      · as_aux_lemma =>
        go_wp2_with fail
        refine (read_all b g m x.at_ x.n _ HA0.out HX.out.near).mono ?_
        rintro e w6 ⟨p, cp, rfl, hi6, hb6⟩
        have HA6 := hid (HA0.out.below hb6)
        have HR6 := hid (HR0.out.below hb6)
        have hB6 := Below.of_below hB0 hB0.size hb6
        have hc1 : w6.cell? ⟨wr.heap.size, 1, none⟩ = some (.int .i64 x.at_) := by
          rw [cell_of_row _ _ _ _ _ _ ((hb6.block _ (by simp)).trans HT0.out)]; rfl
        have hc2 : w6.cell? ⟨wr.heap.size, 2, none⟩ = some (.int .i64 x.n) := by
          rw [cell_of_row _ _ _ _ _ _ ((hb6.block _ (by simp)).trans HT0.out)]; rfl
        have HI6 := hid hi6
        clear HA0 HR0 hB0 HT0 hb6 hi6
        go_wp2_with fail
        refine (rread_all b' g' m x.at_ x.n _ HR6.out).mono ?_
        rintro e w7 ⟨p', cp', rfl, hi7, hb7⟩
        have HA7 := hid (HA6.out.below hb7)
        have HR7 := hid (HR6.out.below hb7)
        have hB7 := Below.of_below hB6 hB6.size hb7
        have hi6' : Ints .u8 w7 w7.heap.size p (readVal m x.at_ x.n) := by
          rcases HI6.out with h | ⟨s1, o1, rfl, hs1, h1⟩
          · exact .inl h
          · exact .inr ⟨s1, o1, rfl, Nat.lt_of_lt_of_le hs1 hb7.size, fun j hj => (hb7.cell (p := ⟨s1, o1 + j, none⟩) hs1).trans (h1 j hj)⟩
        have HI7 := hid hi7
        have HI7' := hid hi6'
        have hrl : (readVal m x.at_ x.n).length ≤ 1000000000000 := by have := readVal_length m x.at_ x.n; omega
        clear HA6 HR6 hB6 hb7 hi7 hi6' HI6
        go_wp2_with fail
        refine (same_all (readVal m x.at_ x.n) p p' cp cp' _ hrl HI7'.out HI7.out).mono ?_
        rintro e w8 ⟨rfl, hb8⟩
        have HA8 := hid (HA7.out.below hb8)
        have HR8 := hid (HR7.out.below hb8)
        have hB8 := Below.of_below hB7 hB7.size hb8
        clear HA7 HR7 hB7 hb8 HI7 HI7'
        go_wp2_with (go_at_call 14; refine (size_cell b g m.length _ HA8.out.cell).mono ?_; rintro e w9 ⟨rfl, rfl⟩; rw [hml])
        exact ⟨⟨k + 1, by omega, by go_num, ⟨m, hml, HA8.out, HR8.out⟩, hB8⟩, by simp [intOf]; omega⟩
      rw [Bool.not_eq_true] at q2
      by_cases q3 : (x.kind == 3) = true
      · as_aux_lemma =>
        go_wp2_with fail
        go_region_held (fun wx => wx.cell? ⟨wr.heap.size, 1, none⟩ = some (.int .i64 x.at_) ∧ wx.cell? ⟨wr.heap.size, 4, none⟩ = some (.slice x.bp x.b.length x.bc)) (first | exact ⟨hc1, hc4⟩ | go_keep)
          (first
            | (go_at_call 16; refine (write_all b g m x.b x.at_ x.bp x.bc w.heap.size _ HA0.out.drew HX.out.near (HX.out.bytes.below hB0.drew) HX.out.byte).mono ?_; rintro e w6 ⟨rfl, hA6, hb6⟩
               have hc1 : w6.cell? ⟨wr.heap.size, 1, none⟩ = some (.int .i64 x.at_) := by
                 rw [cell_of_row _ _ _ _ _ _ ((hb6.block _ (by simp) (by omega)).trans HT0.out)]; rfl
               have hc4 : w6.cell? ⟨wr.heap.size, 4, none⟩ = some (.slice x.bp x.b.length x.bc) := by
                 rw [cell_of_row _ _ _ _ _ _ ((hb6.block _ (by simp) (by omega)).trans HT0.out)]; rfl)
            | (go_at_call 23; refine (rwrite_all b' g' m x.b x.at_ x.bp x.bc w.heap.size _ (HR0.out.drew.but hb6 d3 (Ne.symm d1)) d5 (Below.of_but hB0.drew hB0.drew.size hb6 d4).size (HX.out.bytes.below (Below.of_but hB0.drew hB0.drew.size hb6 d4)) HX.out.byte).mono ?_; rintro e w7 ⟨rfl, hR7, hb7⟩
               have hc1 : w7.cell? ⟨wr.heap.size, 1, none⟩ = some (.int .i64 x.at_) := by
                 rw [World.cell?_of_block (w := w6) (hb7.block _ (block_lt_of_cell hc1) (by show wr.heap.size ≠ _; omega))]; exact hc1
               have hc4 : w7.cell? ⟨wr.heap.size, 4, none⟩ = some (.slice x.bp x.b.length x.bc) := by
                 rw [World.cell?_of_block (w := w6) (hb7.block _ (block_lt_of_cell hc4) (by show wr.heap.size ≠ _; omega))]; exact hc4))
        have hA7 := hA6.but hb7 d2 d1
        have hB7 := Below.of_but (Below.of_but hB0.drew hB0.drew.size hb6 d4) (Below.of_but hB0.drew hB0.drew.size hb6 d4).size hb7 d5
        have hml' : (writeMem m x.at_ x.b).length = n := by rw [writeMem_length, hml]
        have HA7 := hid hA7
        clear hA7 hA6 hb6 hb7 HA0 HR0 HT0 hB0
        go_wp2_with (go_at_call 14; refine (size_cell b g (writeMem m x.at_ x.b).length _ HA7.out.cell).mono ?_; rintro e w8 ⟨rfl, rfl⟩; rw [hml'])
        exact ⟨⟨k + 1, by omega, by go_num, ⟨writeMem m x.at_ x.b, hml', HA7.out, hR7⟩, hB7⟩, by simp [intOf]; omega⟩
      rw [Bool.not_eq_true] at q3
      by_cases q4 : (x.kind == 4) = true
      · as_aux_lemma =>
        go_wp2_with fail
        go_region_held (fun wx => wx.cell? ⟨wr.heap.size, 1, none⟩ = some (.int .i64 x.at_) ∧ wx.cell? ⟨wr.heap.size, 2, none⟩ = some (.int .i64 x.n) ∧ wx.cell? ⟨wr.heap.size, 5, none⟩ = some (.int .u8 x.c)) (first | exact ⟨hc1, hc2, hc5⟩ | go_keep)
          (first
            | (go_at_call 17; refine (fill_all b g m x.at_ x.n x.c _ HA0.out.drew HX.out.near HX.out.c_0 HX.out.c_1).mono ?_; rintro e w6 ⟨rfl, hA6, hb6⟩
               have hc1 : w6.cell? ⟨wr.heap.size, 1, none⟩ = some (.int .i64 x.at_) := by
                 rw [cell_of_row _ _ _ _ _ _ ((hb6.block _ (by simp) (by omega)).trans HT0.out)]; rfl
               have hc2 : w6.cell? ⟨wr.heap.size, 2, none⟩ = some (.int .i64 x.n) := by
                 rw [cell_of_row _ _ _ _ _ _ ((hb6.block _ (by simp) (by omega)).trans HT0.out)]; rfl
               have hc5 : w6.cell? ⟨wr.heap.size, 5, none⟩ = some (.int .u8 x.c) := by
                 rw [cell_of_row _ _ _ _ _ _ ((hb6.block _ (by simp) (by omega)).trans HT0.out)]; rfl)
            | (go_at_call 24; refine (rfill_all b' g' m x.at_ x.n x.c _ (HR0.out.drew.but hb6 d3 (Ne.symm d1)) HX.out.c_0 HX.out.c_1).mono ?_; rintro e w7 ⟨rfl, hR7, hb7⟩
               have hc1 : w7.cell? ⟨wr.heap.size, 1, none⟩ = some (.int .i64 x.at_) := by
                 rw [World.cell?_of_block (w := w6) (hb7.block _ (block_lt_of_cell hc1) (by show wr.heap.size ≠ _; omega))]; exact hc1
               have hc2 : w7.cell? ⟨wr.heap.size, 2, none⟩ = some (.int .i64 x.n) := by
                 rw [World.cell?_of_block (w := w6) (hb7.block _ (block_lt_of_cell hc2) (by show wr.heap.size ≠ _; omega))]; exact hc2
               have hc5 : w7.cell? ⟨wr.heap.size, 5, none⟩ = some (.int .u8 x.c) := by
                 rw [World.cell?_of_block (w := w6) (hb7.block _ (block_lt_of_cell hc5) (by show wr.heap.size ≠ _; omega))]; exact hc5))
        have hA7 := hA6.but hb7 d2 d1
        have hB7 := Below.of_but (Below.of_but hB0.drew hB0.drew.size hb6 d4) (Below.of_but hB0.drew hB0.drew.size hb6 d4).size hb7 d5
        have hml' : (fillMem m x.at_ x.n x.c).length = n := by rw [fillMem_length, hml]
        have HA7 := hid hA7
        clear hA7 hA6 hb6 hb7 HA0 HR0 HT0 hB0
        go_wp2_with (go_at_call 14; refine (size_cell b g (fillMem m x.at_ x.n x.c).length _ HA7.out.cell).mono ?_; rintro e w8 ⟨rfl, rfl⟩; rw [hml'])
        exact ⟨⟨k + 1, by omega, by go_num, ⟨fillMem m x.at_ x.n x.c, hml', HA7.out, hR7⟩, hB7⟩, by simp [intOf]; omega⟩
      rw [Bool.not_eq_true] at q4
      as_aux_lemma =>
        go_wp2_with (go_at_call 14; refine (size_cell b g m.length _ HA0.out.cell).mono ?_; rintro e w9 ⟨rfl, rfl⟩; rw [hml])
        exact ⟨⟨k + 1, by omega, by go_num, ⟨m, hml, HA0.out, HR0.out⟩, hB0⟩, by simp [intOf]; omega⟩
    · go_wp2_with fail
      go_ret
      exact ⟨rfl, hBr⟩

theorem walk (a0 : Int) (a1 : Option Addr) (len1 cap1 : Nat) (w : World) (w1 : Acts w w.heap.size a1 len1) :
    Calls Try.prog 3 #[.int .i64 a0, .slice a1 len1 cap1] w fun e w' => e = .returned (.bool true) ∧ Below w.heap.size w w' := by
  by_cases hm : ∃ k : Nat, k ≤ 14 ∧ a0 = 65536 * 2 ^ k
  · exact core_may a0 a1 len1 cap1 w w1 hm
  · exact core_nil a0 a1 len1 cap1 w w1 (fun k hk he => hm ⟨k, hk, he⟩)

theorem own : ownKnob Try.prog.godebug = none := by kernel_rfl
theorem laidOut : laidOutB Try.prog = true := by kernel_rfl

set_option maxRecDepth 100000 in
theorem lifted (os : Os) (started : os.Started) (H : Type) (enc : TypeId × Value → H) :
    ReturnsInHanded {} Try.checked os 3 .any (Rows.arenaActsSpec.pre6 enc Try.prog Try.f3 Rows.arenaActsRow.domain false) (Rows.arenaActsSpec.post enc Try.prog Try.f3 false true false false) := by
  refine returnsInHanded_of_change (C := Try.checked) own started (by kernel_rfl) Try.func3
    (ChangeSpec.witness6 (enc := enc) (C := Try.checked) false ⟨#[], #[.int .i64 0, .slice none 0 0], []⟩ 8 (by kernel_rfl) (by kernel_rfl) (by kernel_rfl) (by kernel_rfl)) ?_
  intro W base args ds gs before hval0 hW hcnd _
  have hval : ∀ (j : Nat) t v, Try.f3.params[j]? = some t → args[j]? = some v → Value.okWide Try.prog W .any base t v := hval0
  have hW' := hW
  obtain ⟨p, q, hA0, hV, rfl, hfz, hnd⟩ := hW
  have hA : DataW.TrodAll enc Try.prog W 0 (fun _ => true) true Try.f3.params.toList args.toList ds p := hA0
  rw [Try.params3] at hA hval
  obtain ⟨v0, vs0, d0, ds0, p0, q0, hargs, rfl, rfl, h0, r0⟩ := trodAll_cons hA
  obtain ⟨v1, vs1, d1, ds1, p1, q1, rfl, rfl, rfl, h1, r1⟩ := trodAll_cons r0
  obtain ⟨rfl, rfl, rfl⟩ := trodAll_nil r1
  obtain rfl : args = #[v0, v1] := by cases args; simp_all
  obtain ⟨rfl, rfl⟩ := trodVars_none hV
  obtain ⟨a0, rfl, rfl, rfl, w0⟩ := open_int Try.underlying3 (hval 0 3 v0 rfl rfl) h0
  obtain ⟨a1, len1, cap1, rfl⟩ := okWide_slice Try.underlying22 (hval 1 22 v1 rfl rfl)
  have k1 := h1
  have lt1 : ∀ x ∈ p1, x.block < W.heap.size := by obtain ⟨m, hm⟩ := k1; exact DataW.trod_lt m _ _ _ hm
  have w1 : Acts W W.heap.size a1 len1 := by
    obtain ⟨fuel, hf⟩ := h1
    exact acts_of (cap := cap1) (by simpa [Value.cells] using hf)
  clear hA0 hval0
  refine (walk a0 a1 len1 cap1 W w1).mono fun e W' ⟨he, bel⟩ => ?_
  subst he
  exact ⟨_, rfl, _, _, _, [], _, [], hW', trodAll_mk1 (shut_bool Try.underlying4 _), (trodAll_cons_mk (shut_int Try.underlying3 w0) (trodAll_cons_mk (Below.trod laidOut (by kernel_rfl) (of_decide_eq_true (by kernel_rfl)) k1 bel lt1) trodAll_mk0)), rfl, bel.frame _, fun h => by cases h⟩

theorem proved : Rows.ArenaActsSaid :=
  OpenClaim.holds_of_wide 3 Try.f3 rfl rfl rfl rfl rfl rfl rfl ⟨rfl, rfl, rfl, rfl, rfl⟩ rfl rfl rfl rfl rfl (by kernel_rfl) Try.func3 (by kernel_rfl)
    (of_decide_eq_true (by kernel_rfl)) (by unfold Func.isWrapper; first | (rw [if_pos (by decide +kernel)]; kernel_rfl) | (rw [if_neg (by decide +kernel)]; exact ⟨rfl, rfl⟩))
    (fun os started H enc _ => lifted os started H enc)

end Go.Proofs.Ytaoahbobofdimaa.arenaActs
