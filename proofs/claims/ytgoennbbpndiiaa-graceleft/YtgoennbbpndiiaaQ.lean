/- The walk of GraceLeft. -/
import Derived.Test.YtgoennbbpndiiaaN
import Derived.Test.YtgoennbbpndiiaaM2
namespace Go.Proofs.Ytgoennbbpndiiaa.graceLeft
open Go.RowKit Go.Maps Go.Shelf Go.Proofs.Ytgoennbbpndiiaa

theorem core_long (pe : Nat) (a : Option Addr) (n cap : Nat) (w : World) (hl : (60 : Int) < (n : Int)) :
    Calls Try.prog 5 #[.int .u8 (pe : Int), .slice a n cap] w fun e w' => e = .returned (.bool true) ∧ Below w.heap.size w w' := by
  go_enter Try.func5, Try.ntmps5
  go_wp2_with (go_at_call 6; refine (alive_true _).mono ?_; rintro e w' ⟨rfl, hb⟩)
  go_ret
  exact ⟨rfl, hb⟩
theorem src_row {w : World} {base : Nat} {S : Nat → Prop} {va : Value} {l : List Int} (h : OR w base 1 va l.length (nums l)) (hs : ∀ g, va.ownBlock = some g → ¬ S g) : Src w S va l := by
  obtain ⟨a, cap, rfl, _⟩ := h.slice
  refine ⟨a, cap, rfl, fun k x hk => ?_⟩
  obtain ⟨g, off, rfl, _, hc⟩ := h.at (nums_at hk)
  exact ⟨g, off, rfl, hs g rfl, (h.own g rfl).2, hc⟩

set_option maxRecDepth 100000 in
set_option maxHeartbeats 4000000 in
theorem core (pe : Nat) (a : Option Addr) (ns : List Nat) (cap : Nat) (w : World) (hpe : pe < 256) (hA : Bys w w.heap.size a ns) (hl : (ns.length : Int) ≤ 60) :
    Calls Try.prog 5 #[.int .u8 (pe : Int), .slice a ns.length cap] w fun e w' => e = .returned (.bool true) ∧ Below w.heap.size w w' := by
  have HA := hid hA
  have hpe' : (pe : Int) < 256 := by omega
  clear hA
  go_enter Try.func5, Try.ntmps5
  go_wp2_with (go_at_call 6; refine (alive_true _).mono ?_; rintro e w1 ⟨rfl, hb1⟩; have HB1 := hid hb1; clear hb1)
  obtain ⟨p, hp⟩ : ∃ p, p = 1 + (pe : Int) % 16 := ⟨_, rfl⟩
  have hp1 : 1 ≤ p := by omega
  have hp16 : p ≤ 16 := by omega
  rw [← hp]
  clear hp
  refine (new_any p w1 hp1 hp16).mono ?_
  rintro e w2 ⟨rfl, ew⟩
  have hG := Gq.new w1 p
  rw [← ew] at hG
  have HG := hid hG
  clear ew hG
  go_wp2_with fail
  go_loopw [7, 8] (fun nx iv wr => ∃ (i c d : Nat) (v : Value) (came : Nat → Int), i ≤ ns.length ∧ nx = .int .i64 (c : Int) ∧ iv = .int .i64 (i : Int) ∧ c ≤ 3 * i ∧ Hid (Gq w1 wr w1.heap.size v p (ql came p (i : Int) d c) ∧ St came p (i : Int) d c)) (fun _ iv _ => ns.length - (intOf iv).toNat)
  case atStart => exact ⟨0, 0, 0, _, fun _ => 0, Nat.zero_le _, rfl, rfl, Nat.le_refl _, hid ⟨by rw [ql_none]; exact HG.out, ⟨Nat.le_refl _, fun j hj => by omega, fun i j _ hj => by omega, fun j _ hj => by omega⟩⟩⟩
  case round =>
    obtain ⟨i, c, d, v, came, hi, rfl, rfl, hc, H4⟩ := hrel
    clear HG
    by_cases hin : i < ns.length
    · obtain ⟨s0, o0, rfl, hby, _⟩ := HA.out.at (HB1.out.trans (H4.out.1.bel.mono HB1.out.size)) hin
      have HY : Hid (∀ wx : World, Below w1.heap.size w1 wx → wx.cell? ⟨s0, o0 + i, none⟩ = some (.int .u8 ((ns[i]?.getD 0 : Nat) : Int))) := hid (fun wx hx => by
        obtain ⟨s1, o1, e1, _, cc⟩ := HA.out.at (HB1.out.trans (hx.mono HB1.out.size)) hin
        obtain ⟨rfl, rfl⟩ : s0 = s1 ∧ o0 = o1 := by simpa using e1
        exact cc)
      generalize ns[i]?.getD 0 = y at *
      obtain ⟨t, ht⟩ : ∃ t : Nat, t = y % 4 := ⟨_, rfl⟩
      have hty : (y : Int) % 4 = (t : Int) := by omega
      have ht4 : t ≤ 3 := by omega
      have hy' : (y : Int) ≤ 255 := by omega
      have hin' : (i : Int) < (ns.length : Int) := by omega
      clear ht hby
      obtain ⟨w4, rfl⟩ : ∃ w4, w4 = wr := ⟨_, rfl⟩
      go_wp2_with fail
      go_loopw [7, 9, 10] (fun nx va kv wr2 => ∃ k : Nat, k ≤ t ∧ nx = .int .i64 ((c + k : Nat) : Int) ∧ kv = .int .i64 (k : Int) ∧ Hid (Below w4.heap.size w4 wr2 ∧ OR wr2 w4.heap.size 1 va (row c k).length (nums (row c k)))) (fun _ _ kv _ => t - (intOf kv).toNat)
      case atStart => exact ⟨0, Nat.zero_le _, rfl, rfl, Below.refl _ _, OR.nil _ _ _⟩
      case round =>
        obtain ⟨k, hk, rfl, rfl, HS⟩ := hrel
        have cby := HY.out wr (Below.of_below H4.out.1.bel H4.out.1.bel.size HS.out.1)
        by_cases hkt : k < t
        · have hkt2 : (k : Int) < (t : Int) := by omega
          obtain ⟨a6, cap6, rfl, _⟩ := HS.out.2.slice
          obtain ⟨a5, cap5, w5, hr, ho5, hb5⟩ := num_append HS.out.2 (by rw [numRow_len]; omega) HS.out.1.size ((c + k : Nat) : Int) wr.heap.size rfl
          rw [← numRow_next] at ho5
          simp only [numRow_len] at ho5 hr
          have H5 := hid (And.intro (HS.out.1.trans hb5) ho5)
          rw [numRow_len]
          clear ho5 hb5 HS
          go_wp2_with (at_builtin; refine wpList_append_run rfl _ _ 29 29 rfl _ _ _ rfl rfl hr ?_)
          exact ⟨⟨k + 1, by omega, by go_num, by go_num, by rw [numRow_len]; exact H5⟩, by simp [intOf]; omega⟩
        · obtain rfl : k = t := by omega
          obtain ⟨va, hva⟩ : ∃ va, va = u9 := ⟨_, rfl⟩
          have hqA := H4.out.1.below HS.out.1
          have hownA : ∀ g, u9.ownBlock = some g → w4.heap.size ≤ g ∧ g < wr.heap.size := HS.out.2.own
          have hsepA : ∀ g, u9.ownBlock = some g → ¬ Own w1.heap.size v g := fun g e h => by have := (H4.out.1.qu.lt h).2; have := (hownA g e).1; omega
          have hadd := add_any hqA.qu u9 (row c k) (src_row HS.out.2 hsepA) (by rw [ql_len, numRow_len]; omega)
          rw [ql_addMany H4.out.2.le, ql_len, numRow_len] at hadd
          obtain ⟨N, hN⟩ : ∃ N, N = c - d + k := ⟨_, rfl⟩
          rw [← hN] at hadd
          have HADD := hid hadd
          obtain ⟨a6, cap6, rfl, _⟩ := HS.out.2.slice
          rw [numRow_len] at *
          clear hadd
          go_wp2_with fail
          refine HADD.out.mono ?_
          rintro e w5 ⟨rfl, v5, hL5⟩
          have hN2 : c + k - d = N := by have := H4.out.2.le; omega
          have h5 := hqA.left hL5
          have hst5 := H4.out.2.addMany hp1 k
          have hr5 : OR w5 w4.heap.size 1 (.slice a6 k cap6) k (nums (row c k)) := HS.out.2.other hL5.turn.size (fun g e => (hL5.keep (hownA g e).2 (hsepA g e)).1)
          obtain ⟨came2, hcame2⟩ : ∃ came2, came2 = later came (i : Int) c := ⟨_, rfl⟩
          have hnew : ∀ j, c ≤ j → came2 j = (i : Int) := fun j hj => by rw [hcame2]; exact later_new hj
          rw [← hcame2] at h5 hst5
          have hlist := list_any h5.qu (by rw [ql_len]; omega)
          rw [ql_fst, hN2] at hlist
          have HLI := hid hlist
          have H5 := hid (And.intro h5 (And.intro hst5 hr5))
          have HN := hid (And.intro hnew (And.intro hN hN2))
          have hNb : N ≤ 200 := by omega
          clear hlist h5 hst5 hr5 hL5 hqA hownA hsepA HADD H4 HS hcame2 hnew hN hN2 cby
          unfold LsPost at HLI
          go_wp2_with fail
          refine HLI.out.mono ?_
          rintro e w6 ⟨u6, rfl, hr6, hb6⟩
          obtain ⟨a7, cap7, rfl, _⟩ := hr6.slice
          rw [numRow_len]
          have hr6b := H5.out.2.2.below hb6 (Nat.le_refl _)
          have H6 := hid (And.intro (H5.out.1.below hb6) (And.intro H5.out.2.1 hr6b))
          have hne : ((N : Int) != (N : Int)) = false := by simp
          clear hr6 hb6 hr6b H5 HLI
          go_wp2_with fail
          go_loopw [11] (fun kv wr2 => ∃ j : Nat, j ≤ k ∧ kv = .int .i64 (j : Int) ∧ Hid (Below w6.heap.size w6 wr2)) (fun kv _ => k - (intOf kv).toNat)
          case atStart => exact ⟨0, Nat.zero_le _, rfl, Below.refl _ _⟩
          case round =>
            obtain ⟨j, hj, rfl, HB2⟩ := hrel
            by_cases hjk : j < k
            · have hjk2 : (j : Int) < (k : Int) := by omega
              have hrw := H6.out.2.2.below HB2.out (Nat.le_refl _)
              obtain ⟨g6, o6, rfl, _, c6⟩ := hrw.at (numRow_at' hjk)
              have hle := left_any (H6.out.1.below HB2.out).qu (by rw [ql_len]; have := HN.out; omega) ((c + j : Nat) : Int)
              rw [ql_left (by have := HN.out; omega) (by omega), HN.out.1 _ (by omega), show (i : Int) + p - (i : Int) = p by omega] at hle
              have HLE := hid hle
              clear hle hrw
              obtain ⟨x, hx⟩ : ∃ x : Int, x = ((c + j : Nat) : Int) := ⟨_, rfl⟩
              rw [← hx] at c6 HLE
              have hpp : (p != p) = false := by simp
              clear hx
              go_wp2_with fail
              refine HLE.out.mono ?_
              rintro e w7 ⟨rfl, hb7⟩
              have H7 := hid (HB2.out.trans (hb7.mono HB2.out.size))
              clear hb7 HLE
              go_wp2_with fail
              exact ⟨⟨j + 1, by omega, by go_num, H7⟩, by simp [intOf]; omega⟩
            · obtain rfl : j = k := by omega
              have hq7 := H6.out.1.below HB2.out
              have hlist := list_any hq7.qu (by rw [ql_len]; have := HN.out; omega)
              rw [ql_fst, HN.out.2.2] at hlist
              unfold LsPost at hlist
              have HLI := hid hlist
              have H7 := hid (And.intro hq7 H6.out.2.1)
              clear hlist hq7 H6 HB2
              go_wp2_with fail
              refine HLI.out.mono ?_
              rintro e w8 ⟨u8, rfl, hr8, hb8⟩
              obtain ⟨a8, cap8, rfl, _⟩ := hr8.slice
              rw [numRow_len] at hr8 ⊢
              have H8 := hid (And.intro (H7.out.1.below hb8) (And.intro H7.out.2 hr8))
              have HB8 := hid hb8.size
              clear hr8 hb8 HLI
              go_wp2_with fail
              obtain ⟨w7, rfl⟩ : ∃ w7, w7 = wr := ⟨_, rfl⟩
              go_loopw [13, 14] (fun lv kv wr2 => ∃ q : Nat, q ≤ N ∧ kv = .int .i64 (q : Int) ∧ Hid (Below w8.heap.size w8 wr2 ∧ OR wr2 w8.heap.size 1 lv (lefts came2 p (i : Int) d q).length (nums (lefts came2 p (i : Int) d q)))) (fun _ kv _ => N - (intOf kv).toNat)
              case atStart => exact ⟨0, Nat.zero_le _, rfl, Below.refl _ _, OR.nil _ _ _⟩
              case round =>
                obtain ⟨q, hqN, rfl, HS⟩ := hrel
                by_cases hqk : q < N
                · have hqk2 : (q : Int) < (N : Int) := by omega
                  have hrw := H8.out.2.2.below HS.out.1 (Nat.le_refl _)
                  obtain ⟨g8, o8, rfl, _, c8⟩ := hrw.at (numRow_at' hqk)
                  have hle := left_any (H8.out.1.below HS.out.1).qu (by rw [ql_len]; have := HN.out; omega) ((d + q : Nat) : Int)
                  have hdc : d + q < c + j := by have := HN.out; omega
                  rw [ql_left (by omega) hdc] at hle
                  have hw1 := H8.out.2.1.wait (d + q) (by omega) hdc
                  have hw2 := H8.out.2.1.past (d + q) hdc
                  obtain ⟨z, hz⟩ : ∃ z : Int, z = came2 (d + q) + p - (i : Int) := ⟨_, rfl⟩
                  rw [← hz] at hle
                  have hz1 : 1 ≤ z := by omega
                  have hz2 : z ≤ p := by omega
                  have d1 : decide (z < 1) = false := by simp; omega
                  have d2 : decide (p < z) = false := by simp; omega
                  obtain ⟨x, hx⟩ : ∃ x : Int, x = ((d + q : Nat) : Int) := ⟨_, rfl⟩
                  rw [← hx] at c8 hle
                  have HLE := hid hle
                  obtain ⟨a9, cap9, rfl, _⟩ := HS.out.2.slice
                  have hprev : ∀ q', q = q' + 1 → ∃ g off z', a9 = some ⟨g, off, none⟩ ∧ wr.cell? ⟨g, off + q', none⟩ = some (.int .i64 z') ∧ g < wr.heap.size ∧ decide (z < z') = false := fun q' hq' => by
                    obtain ⟨g, off, rfl, _, hc⟩ := HS.out.2.at (nums_at (lefts_at (k := q') (by omega)))
                    refine ⟨g, off, _, rfl, hc, (HS.out.2.own g rfl).2, ?_⟩
                    have := H8.out.2.1.mono (d + q') (d + q) (by omega) hdc
                    simp; omega
                  clear hx hle hrw hw1 hw2
                  rw [lefts_len]
                  go_wp2_with fail
                  refine HLE.out.mono ?_
                  rintro e w9 ⟨rfl, hb9⟩
                  obtain ⟨a10, cap10, w10, hr, ho10, hb10⟩ := num_append (HS.out.2.below hb9 (Nat.le_refl _)) (by rw [lefts_len]; omega) (Nat.le_trans HS.out.1.size hb9.size) z w9.heap.size rfl
                  rw [hz, ← lefts_next] at ho10
                  simp only [lefts_len] at ho10 hr
                  have H10 := hid (And.intro ((HS.out.1.trans (hb9.mono HS.out.1.size)).trans hb10) ho10)
                  have HZ := hid hz
                  have hb9' := hid hb9
                  clear hz ho10 hb10 HS hb9 HLE
                  cases q with
                  | zero =>
                    clear hprev
                    go_wp2_with (at_builtin; refine wpList_append_run rfl _ _ 29 29 rfl _ _ _ rfl rfl hr ?_)
                    exact ⟨⟨1, by omega, by go_num, by rw [lefts_len]; exact H10⟩, by simp [intOf]; omega⟩
                  | succ q =>
                    obtain ⟨gp, op, zp, rfl, cp, hgp, dp⟩ := hprev q rfl
                    have cp9 : w9.cell? ⟨gp, op + q, none⟩ = some (.int .i64 zp) := (hb9'.out.cell (p := ⟨gp, op + q, none⟩) hgp).trans cp
                    clear hprev
                    go_wp2_with (at_builtin; refine wpList_append_run rfl _ _ 29 29 rfl _ _ _ rfl rfl hr ?_)
                    exact ⟨⟨q + 1 + 1, by omega, by go_num, by rw [lefts_len]; exact H10⟩, by simp [intOf]; omega⟩
                · obtain rfl : N = q := by omega
                  obtain ⟨a9, cap9, rfl, _⟩ := HS.out.2.slice
                  have hq9 := H8.out.1.below HS.out.1
                  obtain ⟨m, hSt, hdue, hrest, hat⟩ := St.tick H8.out.2.1
                  have htk := tick_any hq9.qu (by rw [ql_len]; have := HN.out; omega) (ql_bound H8.out.2.1 hp16)
                  unfold TickPost at htk
                  rw [hdue, hrest] at htk
                  have HTK := hid htk
                  rw [lefts_len]
                  clear htk hdue hrest
                  go_wp2_with fail
                  refine HTK.out.mono ?_
                  rintro e w11 ⟨u11, v11, rfl, hr11, hL11, _⟩
                  change OR w11 wr.heap.size 1 u11 (row d m).length (nums (row d m)) at hr11
                  obtain ⟨a11, cap11, rfl, _⟩ := hr11.slice
                  have e11 : (List.map (fun (j : Nat) => (j : Int)) (List.range' d m)).length = m := by simp
                  rw [numRow_len] at hr11 ⊢
                  have hwas : OR wr w7.heap.size 1 (.slice a8 N cap8) N (nums (row d N)) := H8.out.2.2.below HS.out.1 (Nat.le_refl _)
                  have hnown : ∀ g, w7.heap.size ≤ g → g < wr.heap.size → w11.heap[g]? = wr.heap[g]? := fun g h1 h2 => (hL11.keep h2 (fun ho => by have := (H7.out.1.qu.lt ho).2; omega)).1
                  have hwas11 : OR w11 w7.heap.size 1 (.slice a8 N cap8) N (nums (row d N)) := hwas.other hL11.turn.size (fun g e => hnown g (hwas.own g e).1 (hwas.own g e).2)
                  have hlef := HS.out.2
                  rw [lefts_len] at hlef
                  have hlef11 : OR w11 w8.heap.size 1 (.slice a9 N cap9) N (nums (lefts came2 p (i : Int) d N)) := hlef.other hL11.turn.size (fun g e => hnown g (by have := (hlef.own g e).1; have := HB8.out; omega) (hlef.own g e).2)
                  have h11 := hq9.left hL11
                  have H11 := hid (And.intro h11 (And.intro hSt hat))
                  have HR := hid (And.intro hwas11 (And.intro hlef11 hr11))
                  clear hwas hnown hwas11 hlef hlef11 h11 hSt hat hr11 hL11 hq9 HTK HS e11
                  have hmN : m ≤ N := by have := H11.out.2.1.le; have := HN.out; omega
                  obtain ⟨w10, rfl⟩ : ∃ w10, w10 = wr := ⟨_, rfl⟩
                  go_wp2_with fail
                  go_loopw [17] (fun kv wr2 => ∃ k : Nat, k ≤ N ∧ kv = .int .i64 (k : Int) ∧ Hid (Below w11.heap.size w11 wr2)) (fun kv _ => N - (intOf kv).toNat)
                  case atStart => exact ⟨0, Nat.zero_le _, rfl, Below.refl _ _⟩
                  case round =>
                    obtain ⟨k, hk, rfl, HB⟩ := hrel
                    by_cases hkN : k < N
                    · have hkN2 : (k : Int) < (N : Int) := by omega
                      have hdk : d + k < c + j := by have := HN.out; omega
                      have hA8 := HR.out.1.below HB.out (Nat.le_refl _)
                      have hA9 := HR.out.2.1.below HB.out (Nat.le_refl _)
                      have hA11 := HR.out.2.2.below HB.out (Nat.le_refl _)
                      obtain ⟨g8, o8, rfl, _, c8⟩ := hA8.at (numRow_at' hkN)
                      obtain ⟨g9, o9, rfl, _, c9⟩ := hA9.at (nums_at (lefts_at hkN))
                      have hl8 := (hA8.own g8 rfl).2
                      have hl9 := (hA9.own g9 rfl).2
                      have hgq := H11.out.1.below HB.out
                      have hle := left_any (hgq.below ((Below.refl _ wr).drew)).qu (by rw [ql_len]; have := HN.out; omega) ((d + k : Nat) : Int)
                      obtain ⟨x, hx⟩ : ∃ x : Int, x = ((d + k : Nat) : Int) := ⟨_, rfl⟩
                      by_cases hkm : k < m
                      · have hkm2 : (k : Int) < (m : Int) := by omega
                        obtain ⟨g11, o11, rfl, _, c11⟩ := hA11.at (numRow_at' hkm)
                        have hl11 := (hA11.own g11 rfl).2
                        have hdue := H11.out.2.2 (d + k) (by omega) (by omega)
                        rw [show came2 (d + k) + p - (i : Int) = 1 by omega] at c9
                        rw [ql_gone (by omega)] at hle
                        rw [← hx] at c8 c11 hle
                        have hxx : (x != x) = false := by simp
                        have HLE := hid hle
                        have HC : Hid (∀ wx : World, Below wr.heap.size wr wx → wx.cell? ⟨g8, o8 + k, none⟩ = some (.int .i64 x) ∧ wx.cell? ⟨g9, o9 + k, none⟩ = some (.int .i64 1) ∧ wx.cell? ⟨g11, o11 + k, none⟩ = some (.int .i64 x)) := hid (fun wx hb =>
                          ⟨(hb.cell (p := ⟨g8, o8 + k, none⟩) hl8).trans c8, (hb.cell (p := ⟨g9, o9 + k, none⟩) hl9).trans c9, (hb.cell (p := ⟨g11, o11 + k, none⟩) hl11).trans c11⟩)
                        obtain ⟨z0, z1, z2⟩ := HC.out wr.drew ((Below.refl _ wr).drew)
                        clear hdue hle hA8 hA9 hA11 hgq hx
                        go_wp2_with fail
                        go_region_held3 (fun wx => wx.cell? ⟨g8, o8 + k, none⟩ = some (.int .i64 x) ∧ wx.cell? ⟨g9, o9 + k, none⟩ = some (.int .i64 1) ∧ wx.cell? ⟨g11, o11 + k, none⟩ = some (.int .i64 x)) (first | exact ⟨m0, m1, m2⟩ | exact ⟨z0, z1, z2⟩)
                          (first
                            | (go_at_call 13; refine HLE.out.mono ?_; rintro e w12 ⟨rfl, hb12⟩; obtain ⟨m0, m1, m2⟩ := HC.out w12 (((Below.refl _ wr).drew).trans hb12)))
                        have H12 := hid (HB.out.trans ((((Below.refl _ wr).drew).trans hb12).mono HB.out.size))
                        clear hb12 HLE
                        go_wp2_with fail
                        exact ⟨⟨k + 1, by omega, by go_num, H12⟩, by simp [intOf]; omega⟩
                      · have hkm2 : ¬ ((k : Int) < (m : Int)) := by omega
                        have hkm3 : decide ((k : Int) < (m : Int)) = false := by simp; omega
                        have hkm4 : decide (k < m) = false := by simp; omega
                        have hw := H11.out.2.1.wait (d + k) (by omega) hdk
                        have hpa := H11.out.2.1.past (d + k) hdk
                        rw [ql_left (by omega) hdk] at hle
                        obtain ⟨y1, hy1⟩ : ∃ y1 : Int, y1 = came2 (d + k) + p - (i : Int) := ⟨_, rfl⟩
                        rw [show came2 (d + k) + p - ((i : Int) + 1) = y1 - 1 by omega] at hle
                        rw [← hy1] at c9
                        rw [← hx] at c8 hle
                        have hy2 : 2 ≤ y1 := by omega
                        have hy3 : y1 ≤ 100 := by omega
                        have hye : (y1 == 1) = false := by rw [beq_eq_false_iff_ne]; omega
                        obtain ⟨z, hzy⟩ : ∃ z : Int, z = y1 - 1 := ⟨_, rfl⟩
                        have hsub : y1 - 1 = z := hzy.symm
                        rw [hsub] at hle
                        have hyy : (z != z) = false := by simp
                        have hwz : IntKind.i64.wrap z = z := by rw [IntKind.wrap_i64]; omega
                        clear hzy
                        have HLE := hid hle
                        have HC : Hid (∀ wx : World, Below wr.heap.size wr wx → wx.cell? ⟨g8, o8 + k, none⟩ = some (.int .i64 x) ∧ wx.cell? ⟨g9, o9 + k, none⟩ = some (.int .i64 y1)) := hid (fun wx hb =>
                          ⟨(hb.cell (p := ⟨g8, o8 + k, none⟩) hl8).trans c8, (hb.cell (p := ⟨g9, o9 + k, none⟩) hl9).trans c9⟩)
                        obtain ⟨z0, z1⟩ := HC.out wr.drew ((Below.refl _ wr).drew)
                        clear hle hA8 hA9 hA11 hgq hx hw hpa hy1
                        go_wp2_with fail
                        refine wp_region_held_drew (S := fun wx => wx.cell? ⟨g8, o8 + k, none⟩ = some (.int .i64 x) ∧ wx.cell? ⟨g9, o9 + k, none⟩ = some (.int .i64 y1)) (by kernel_rfl) ⟨z0, z1⟩ (fun hHeld => ?_)
                        refine takeH (i := 0) (some 118) (.pointer (some ⟨w1.heap.size, 0, none⟩)) rfl rfl (by kernel_rfl) (by kernel_rfl) (by kernel_rfl) (fun _ _ _ h => h) (Or.inl ⟨by rfl, ?_⟩) (by assumption) ?_
                        · (intro w hSw; (try dsimp only at hSw); go_simp)
                        simp only [Act.put, List.setIfInBounds_toArray, List.set_cons_zero, List.set_cons_succ]
                        refine takeH (i := 1) (some 119) (.slice (some ⟨g8, o8, none⟩) N cap8) rfl rfl (by kernel_rfl) (by kernel_rfl) (by kernel_rfl) (fun _ _ _ h => h) (Or.inl ⟨by rfl, ?_⟩) (by assumption) ?_
                        · (intro w hSw; (try dsimp only at hSw); go_simp)
                        simp only [Act.put, List.setIfInBounds_toArray, List.set_cons_zero, List.set_cons_succ]
                        refine takeH (i := 2) (some 120) (.int .i64 (k : Int)) rfl rfl (by kernel_rfl) (by kernel_rfl) (by kernel_rfl) (fun _ _ _ h => h) (Or.inl ⟨by rfl, ?_⟩) (by assumption) ?_
                        · (intro w hSw; (try dsimp only at hSw); go_simp)
                        simp only [Act.put, List.setIfInBounds_toArray, List.set_cons_zero, List.set_cons_succ]
                        refine takeH (i := 3) (some 121) (.pointer (some ⟨g8, o8 + k, none⟩)) rfl rfl (by kernel_rfl) (by kernel_rfl) (by kernel_rfl) (fun _ _ _ h => h) (Or.inl ⟨by rfl, ?_⟩) (by assumption) ?_
                        · (intro w hSw; (try dsimp only at hSw); go_simp)
                        simp only [Act.put, List.setIfInBounds_toArray, List.set_cons_zero, List.set_cons_succ]
                        refine takeH (i := 4) (some 122) (.int .i64 x) rfl rfl (by kernel_rfl) (by kernel_rfl) (by kernel_rfl) (fun _ _ _ h => h) (Or.inl ⟨by rfl, ?_⟩) (by assumption) ?_
                        · (intro w hSw; (try dsimp only at hSw); go_simp)
                        simp only [Act.put, List.setIfInBounds_toArray, List.set_cons_zero, List.set_cons_succ]
                        refine takeH (i := 6) (some 124) (.slice (some ⟨g9, o9, none⟩) N cap9) rfl rfl (by kernel_rfl) (by kernel_rfl) (by kernel_rfl) (fun _ _ _ h => h) (Or.inl ⟨by rfl, ?_⟩) (by assumption) ?_
                        · (intro w hSw; (try dsimp only at hSw); go_simp)
                        simp only [Act.put, List.setIfInBounds_toArray, List.set_cons_zero, List.set_cons_succ]
                        refine takeH (i := 7) (some 125) (.int .i64 (k : Int)) rfl rfl (by kernel_rfl) (by kernel_rfl) (by kernel_rfl) (fun _ _ _ h => h) (Or.inl ⟨by rfl, ?_⟩) (by assumption) ?_
                        · (intro w hSw; (try dsimp only at hSw); go_simp)
                        simp only [Act.put, List.setIfInBounds_toArray, List.set_cons_zero, List.set_cons_succ]
                        refine takeH (i := 8) (some 126) (.pointer (some ⟨g9, o9 + k, none⟩)) rfl rfl (by kernel_rfl) (by kernel_rfl) (by kernel_rfl) (fun _ _ _ h => h) (Or.inl ⟨by rfl, ?_⟩) (by assumption) ?_
                        · (intro w hSw; (try dsimp only at hSw); go_simp)
                        simp only [Act.put, List.setIfInBounds_toArray, List.set_cons_zero, List.set_cons_succ]
                        refine takeH (i := 9) (some 127) (.int .i64 y1) rfl rfl (by kernel_rfl) (by kernel_rfl) (by kernel_rfl) (fun _ _ _ h => h) (Or.inl ⟨by rfl, ?_⟩) (by assumption) ?_
                        · (intro w hSw; (try dsimp only at hSw); go_simp)
                        simp only [Act.put, List.setIfInBounds_toArray, List.set_cons_zero, List.set_cons_succ]
                        refine takeH (i := 10) (some 128) (.int .i64 z) rfl rfl (by kernel_rfl) (by kernel_rfl) (by kernel_rfl) (fun _ _ _ h => h) (Or.inl ⟨by rfl, ?_⟩) (by assumption) ?_
                        · (intro w hSw; (try dsimp only at hSw); go_simp)
                        simp only [Act.put, List.setIfInBounds_toArray, List.set_cons_zero, List.set_cons_succ]
                        refine wpAnyH_ready (rs := [5]) (by kernel_rfl) (by simp) ?_
                        refine AllReadyH.cons (by simp only [List.getElem?_toArray, List.getElem?_cons_succ, List.getElem?_cons_zero]; rfl) (fun KK hK => ?_) AllReadyH.nil
                        go_simp
                        refine HLE.out.mono ?_
                        rintro e w12 ⟨rfl, hb12⟩
                        obtain ⟨m0, m1⟩ := HC.out w12 (((Below.refl _ wr).drew).trans hb12)
                        go_wp2_with fail
                        refine hK.out _ _ ⟨m0, m1⟩ (fun hHeld => ?_)
                        clear hK KK
                        try simp only [Act.put, List.setIfInBounds_toArray, List.set_cons_zero, List.set_cons_succ]
                        refine takeH (i := 11) (some 129) (.bool false) rfl rfl (by kernel_rfl) (by kernel_rfl) (by kernel_rfl) (fun _ _ _ h => h) (Or.inl ⟨by rfl, ?_⟩) (by assumption) ?_
                        · (intro w hSw; (try dsimp only at hSw); go_simp)
                        simp only [Act.put, List.setIfInBounds_toArray, List.set_cons_zero, List.set_cons_succ]
                        refine takeH (i := 12) (some 130) (.bool false) rfl rfl (by kernel_rfl) (by kernel_rfl) (by kernel_rfl) (fun _ _ _ h => h) (Or.inl ⟨by rfl, ?_⟩) (by assumption) ?_
                        · (intro w hSw; (try dsimp only at hSw); go_simp)
                        simp only [Act.put, List.setIfInBounds_toArray, List.set_cons_zero, List.set_cons_succ]
                        refine takeH (i := 13) (some 131) (.slice (some ⟨g9, o9, none⟩) N cap9) rfl rfl (by kernel_rfl) (by kernel_rfl) (by kernel_rfl) (fun _ _ _ h => h) (Or.inl ⟨by rfl, ?_⟩) (by assumption) ?_
                        · (intro w hSw; (try dsimp only at hSw); go_simp)
                        simp only [Act.put, List.setIfInBounds_toArray, List.set_cons_zero, List.set_cons_succ]
                        refine takeH (i := 14) (some 132) (.int .i64 (k : Int)) rfl rfl (by kernel_rfl) (by kernel_rfl) (by kernel_rfl) (fun _ _ _ h => h) (Or.inl ⟨by rfl, ?_⟩) (by assumption) ?_
                        · (intro w hSw; (try dsimp only at hSw); go_simp)
                        simp only [Act.put, List.setIfInBounds_toArray, List.set_cons_zero, List.set_cons_succ]
                        refine takeH (i := 15) (some 133) (.pointer (some ⟨g9, o9 + k, none⟩)) rfl rfl (by kernel_rfl) (by kernel_rfl) (by kernel_rfl) (fun _ _ _ h => h) (Or.inl ⟨by rfl, ?_⟩) (by assumption) ?_
                        · (intro w hSw; (try dsimp only at hSw); go_simp)
                        simp only [Act.put, List.setIfInBounds_toArray, List.set_cons_zero, List.set_cons_succ]
                        refine takeH (i := 16) (some 134) (.int .i64 y1) rfl rfl (by kernel_rfl) (by kernel_rfl) (by kernel_rfl) (fun _ _ _ h => h) (Or.inl ⟨by rfl, ?_⟩) (by assumption) ?_
                        · (intro w hSw; (try dsimp only at hSw); go_simp)
                        simp only [Act.put, List.setIfInBounds_toArray, List.set_cons_zero, List.set_cons_succ]
                        refine takeH (i := 17) (some 135) (.bool false) rfl rfl (by kernel_rfl) (by kernel_rfl) (by kernel_rfl) (fun _ _ _ h => h) (Or.inl ⟨by rfl, ?_⟩) (by assumption) ?_
                        · (intro w hSw; (try dsimp only at hSw); go_simp)
                        simp only [Act.put, List.setIfInBounds_toArray, List.set_cons_zero, List.set_cons_succ]
                        refine takeH (i := 18) (some 136) (.int .i64 (k : Int)) rfl rfl (by kernel_rfl) (by kernel_rfl) (by kernel_rfl) (fun _ _ _ h => h) (Or.inl ⟨by rfl, ?_⟩) (by assumption) ?_
                        · (intro w hSw; (try dsimp only at hSw); go_simp)
                        simp only [Act.put, List.setIfInBounds_toArray, List.set_cons_zero, List.set_cons_succ]
                        refine takeH (i := 19) (some 137) (.slice a11 m cap11) rfl rfl (by kernel_rfl) (by kernel_rfl) (by kernel_rfl) (fun _ _ _ h => h) (Or.inl ⟨by rfl, ?_⟩) (by assumption) ?_
                        · (intro w hSw; (try dsimp only at hSw); go_simp)
                        simp only [Act.put, List.setIfInBounds_toArray, List.set_cons_zero, List.set_cons_succ]
                        refine takeH (i := 20) (some 138) (.int .i64 (m : Int)) rfl rfl (by kernel_rfl) (by kernel_rfl) (by kernel_rfl) (fun _ _ _ h => h) (Or.inl ⟨by rfl, ?_⟩) (by assumption) ?_
                        · (intro w hSw; (try dsimp only at hSw); go_simp)
                        simp only [Act.put, List.setIfInBounds_toArray, List.set_cons_zero, List.set_cons_succ]
                        refine takeH (i := 21) (some 139) (.bool false) rfl rfl (by kernel_rfl) (by kernel_rfl) (by kernel_rfl) (fun _ _ _ h => h) (Or.inl ⟨by rfl, ?_⟩) (by assumption) ?_
                        · (intro w hSw; (try dsimp only at hSw); go_simp)
                        simp only [Act.put, List.setIfInBounds_toArray, List.set_cons_zero, List.set_cons_succ]
                        refine takeH (i := 22) (some 140) (.bool false) rfl rfl (by kernel_rfl) (by kernel_rfl) (by kernel_rfl) (fun _ _ _ h => h) (Or.inl ⟨by rfl, ?_⟩) (by assumption) ?_
                        · (intro w hSw; (try dsimp only at hSw); go_simp)
                        simp only [Act.put, List.setIfInBounds_toArray, List.set_cons_zero, List.set_cons_succ]
                        refine takeH (i := 23) (some 141) (.bool false) rfl rfl (by kernel_rfl) (by kernel_rfl) (by kernel_rfl) (fun _ _ _ h => h) (Or.inl ⟨by rfl, ?_⟩) (by assumption) ?_
                        · (intro w hSw; (try dsimp only at hSw); go_simp)
                        simp only [Act.put, List.setIfInBounds_toArray, List.set_cons_zero, List.set_cons_succ]
                        refine takeH (i := 24) (some 142) (.bool false) rfl rfl (by kernel_rfl) (by kernel_rfl) (by kernel_rfl) (fun _ _ _ h => h) (Or.inl ⟨by rfl, ?_⟩) (by assumption) ?_
                        · (intro w hSw; (try dsimp only at hSw); go_simp)
                        simp only [Act.put, List.setIfInBounds_toArray, List.set_cons_zero, List.set_cons_succ]
                        refine takeH (i := 25) (some 143) (.int .i64 (k : Int)) rfl rfl (by kernel_rfl) (by kernel_rfl) (by kernel_rfl) (fun _ _ _ h => h) (Or.inl ⟨by rfl, ?_⟩) (by assumption) ?_
                        · (intro w hSw; (try dsimp only at hSw); go_simp)
                        simp only [Act.put, List.setIfInBounds_toArray, List.set_cons_zero, List.set_cons_succ]
                        refine takeH (i := 26) (some 144) (.slice a11 m cap11) rfl rfl (by kernel_rfl) (by kernel_rfl) (by kernel_rfl) (fun _ _ _ h => h) (Or.inl ⟨by rfl, ?_⟩) (by assumption) ?_
                        · (intro w hSw; (try dsimp only at hSw); go_simp)
                        simp only [Act.put, List.setIfInBounds_toArray, List.set_cons_zero, List.set_cons_succ]
                        refine takeH (i := 27) (some 145) (.int .i64 (m : Int)) rfl rfl (by kernel_rfl) (by kernel_rfl) (by kernel_rfl) (fun _ _ _ h => h) (Or.inl ⟨by rfl, ?_⟩) (by assumption) ?_
                        · (intro w hSw; (try dsimp only at hSw); go_simp)
                        simp only [Act.put, List.setIfInBounds_toArray, List.set_cons_zero, List.set_cons_succ]
                        refine takeH (i := 28) (some 146) (.bool false) rfl rfl (by kernel_rfl) (by kernel_rfl) (by kernel_rfl) (fun _ _ _ h => h) (Or.inl ⟨by rfl, ?_⟩) (by assumption) ?_
                        · (intro w hSw; (try dsimp only at hSw); go_simp)
                        simp only [Act.put, List.setIfInBounds_toArray, List.set_cons_zero, List.set_cons_succ]
                        refine takeH (i := 29) (some 147) (.bool false) rfl rfl (by kernel_rfl) (by kernel_rfl) (by kernel_rfl) (fun _ _ _ h => h) (Or.inl ⟨by rfl, ?_⟩) (by assumption) ?_
                        · (intro w hSw; (try dsimp only at hSw); go_simp)
                        simp only [Act.put, List.setIfInBounds_toArray, List.set_cons_zero, List.set_cons_succ]
                        refine takeH (i := 30) (some 148) undef rfl rfl (by kernel_rfl) (by kernel_rfl) (by kernel_rfl) (fun _ _ _ h => h) (Or.inr ⟨by rfl, rfl⟩) (by assumption) ?_
                        simp only [Act.put, List.setIfInBounds_toArray, List.set_cons_zero, List.set_cons_succ]
                        refine takeH (i := 31) (some 149) undef rfl rfl (by kernel_rfl) (by kernel_rfl) (by kernel_rfl) (fun _ _ _ h => h) (Or.inr ⟨by rfl, rfl⟩) (by assumption) ?_
                        simp only [Act.put, List.setIfInBounds_toArray, List.set_cons_zero, List.set_cons_succ]
                        refine takeH (i := 32) (some 150) undef rfl rfl (by kernel_rfl) (by kernel_rfl) (by kernel_rfl) (fun _ _ _ h => h) (Or.inr ⟨by rfl, rfl⟩) (by assumption) ?_
                        simp only [Act.put, List.setIfInBounds_toArray, List.set_cons_zero, List.set_cons_succ]
                        refine takeH (i := 33) (some 151) undef rfl rfl (by kernel_rfl) (by kernel_rfl) (by kernel_rfl) (fun _ _ _ h => h) (Or.inr ⟨by rfl, rfl⟩) (by assumption) ?_
                        simp only [Act.put, List.setIfInBounds_toArray, List.set_cons_zero, List.set_cons_succ]
                        refine takeH (i := 34) (some 152) undef rfl rfl (by kernel_rfl) (by kernel_rfl) (by kernel_rfl) (fun _ _ _ h => h) (Or.inr ⟨by rfl, rfl⟩) (by assumption) ?_
                        simp only [Act.put, List.setIfInBounds_toArray, List.set_cons_zero, List.set_cons_succ]
                        refine takeH (i := 35) (some 153) undef rfl rfl (by kernel_rfl) (by kernel_rfl) (by kernel_rfl) (fun _ _ _ h => h) (Or.inr ⟨by rfl, rfl⟩) (by assumption) ?_
                        simp only [Act.put, List.setIfInBounds_toArray, List.set_cons_zero, List.set_cons_succ]
                        refine takeH (i := 36) (some 154) undef rfl rfl (by kernel_rfl) (by kernel_rfl) (by kernel_rfl) (fun _ _ _ h => h) (Or.inr ⟨by rfl, rfl⟩) (by assumption) ?_
                        simp only [Act.put, List.setIfInBounds_toArray, List.set_cons_zero, List.set_cons_succ]
                        refine takeH (i := 37) (some 155) undef rfl rfl (by kernel_rfl) (by kernel_rfl) (by kernel_rfl) (fun _ _ _ h => h) (Or.inr ⟨by rfl, rfl⟩) (by assumption) ?_
                        simp only [Act.put, List.setIfInBounds_toArray, List.set_cons_zero, List.set_cons_succ]
                        refine takeH (i := 38) (some 156) undef rfl rfl (by kernel_rfl) (by kernel_rfl) (by kernel_rfl) (fun _ _ _ h => h) (Or.inr ⟨by rfl, rfl⟩) (by assumption) ?_
                        simp only [Act.put, List.setIfInBounds_toArray, List.set_cons_zero, List.set_cons_succ]
                        refine takeH (i := 39) (some 157) (.bool false) rfl rfl (by kernel_rfl) (by kernel_rfl) (by kernel_rfl) (fun _ _ _ h => h) (Or.inl ⟨by rfl, ?_⟩) (by assumption) ?_
                        · (intro w hSw; (try dsimp only at hSw); go_simp)
                        simp only [Act.put, List.setIfInBounds_toArray, List.set_cons_zero, List.set_cons_succ]
                        refine takeH (i := 40) (some 158) (.bool false) rfl rfl (by kernel_rfl) (by kernel_rfl) (by kernel_rfl) (fun _ _ _ h => h) (Or.inl ⟨by rfl, ?_⟩) (by assumption) ?_
                        · (intro w hSw; (try dsimp only at hSw); go_simp)
                        simp only [Act.put, List.setIfInBounds_toArray, List.set_cons_zero, List.set_cons_succ]
                        refine wpAnyH_done (by kernel_rfl) ?_ _
                        have H12 := hid (HB.out.trans ((((Below.refl _ wr).drew).trans hb12).mono HB.out.size))
                        clear hb12 HLE
                        go_wp2_with fail
                        exact ⟨⟨k + 1, by omega, by go_num, H12⟩, by simp [intOf]; omega⟩
                    · obtain rfl : N = k := by omega
                      have H12 : Hid (Gq w1 wr w1.heap.size v11 p (ql came2 p ((i + 1 : Nat) : Int) (d + m) (c + j)) ∧ St came2 p ((i + 1 : Nat) : Int) (d + m) (c + j)) := hid ⟨H11.out.1.below HB.out, H11.out.2.1⟩
                      go_wp2_with fail
                      exact ⟨⟨i + 1, c + j, d + m, v11, came2, by omega, by go_num, by go_num, by omega, H12⟩, by simp [intOf]; omega⟩
    · obtain rfl : i = ns.length := by omega
      go_wp2_with fail
      refine (period_any H4.out.1.qu).mono ?_
      rintro e w6 ⟨rfl, rfl⟩
      have hpp : (p == p) = true := beq_self_eq_true _
      go_wp2_with fail
      go_ret
      exact ⟨rfl, Below.of_below HB1.out HB1.out.size H4.out.1.bel⟩
end Go.Proofs.Ytgoennbbpndiiaa.graceLeft
