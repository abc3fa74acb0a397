/- For every place, every list of words and every byte: words that were stored in an arena of 65536 bytes are loaded, and the bytes ahead of them and behind them don't turn: ArenaBack returns true. Conditions: none. -/
import Derived.Test.YtaoahbobofdimaaF
import Derived.ProofKit
import Derived.OpenShut
import Derived.ShutString
import Derived.ChangeOld
namespace Go.Proofs.Ytaoahbobofdimaa.arenaBack
open Go.ChangeShapes Go.WideShapes Go.ChangeAt Go.RowKit Go.Proofs.Ytaoahbobofdimaa

theorem core_long (a : Option Addr) (len cap : Nat) (sp c : Int) (w : World) (hl : (100 : Int) < len) :
    Calls Try.prog 4 #[.int .u16 sp, .slice a len cap, .int .u8 c] w fun e w' => e = .returned (.bool true) ∧ Below w.heap.size w w' := by
  go_enter Try.func4, Try.ntmps4
  go_wp2_with fail
  refine (alive_true _).mono ?_
  rintro e w1 ⟨rfl, hb1⟩
  go_wp2_with fail
  go_ret
  exact ⟨rfl, hb1⟩

set_option maxHeartbeats 2000000 in
theorem core (a : Option Addr) (ws : List Int) (cap : Nat) (sp c : Int) (w : World) (hs0 : 0 ≤ sp) (hs1 : sp < 65536) (hc : 0 ≤ c) (hc' : c ≤ 255) (hl : (ws.length : Int) ≤ 100) (hnear : 8 * (8 + sp % 8000) + 8 * (ws.length : Int) ≤ 65536)
    (hI : Ints .u64 w w.heap.size a ws) (hws : Word ws) :
    Calls Try.prog 4 #[.int .u16 sp, .slice a ws.length cap, .int .u8 c] w fun e w' => e = .returned (.bool true) ∧ Below w.heap.size w w' := by
  go_enter Try.func4, Try.ntmps4
  go_wp2_with fail
  refine (alive_true _).mono ?_
  rintro e w1 ⟨rfl, hb1⟩
  go_wp2_with fail
  refine (new_64k _).mono ?_
  rintro e w2 ⟨b, g, rfl, hA2, hb2, hlb, hlg⟩
  have hB2 := Below.of_below hb1 hb1.size hb2
  have hlg' : w.heap.size ≤ g := Nat.le_trans hb1.size hlg
  clear hb1 hb2 hlb hlg
  go_wp2_with fail
  refine (fill_ok b g _ 0 65536 c _ hA2 (by omega) (by omega) (by rw [zeros_length]; omega) hc hc').mono ?_
  rintro e w3 ⟨rfl, hA3, hb3⟩
  change Arena w3 b g (full c) at hA3
  have hB3 := Below.of_but hB2 hB2.size hb3 hlg'
  clear hb3 hA2 hB2
  go_wp2_with fail
  obtain ⟨q, hq, hq0, hq1, hq2⟩ : ∃ q : Nat, 8 * (8 + sp % 8000) = (q : Int) ∧ (q : Int) % 8 = 0 ∧ (q : Int) + 8 * (ws.length : Int) ≤ 65536 ∧ 0 ≤ (q : Int) := ⟨(8 * (8 + sp % 8000)).toNat, by omega, by omega, by omega, by omega⟩
  rw [hq]
  clear hq hs0 hs1 hnear
  refine (store_any b g (full c) ws (q : Int) a cap w.heap.size _ hA3 hq2 (by rw [full_length]; omega) hq0 hlg' hB3.size (hI.below hB3) hws).mono ?_
  rintro e w4 ⟨rfl, hA4, hb4⟩
  rw [Int.toNat_natCast] at hA4
  have hB4 := Below.of_but hB3 hB3.size hb4 hlg'
  clear hA3 hB3 hb4
  have hlen : (putAt (full c) q (wordsBytes ws)).length = 65536 := by rw [putAt_length _ _ _ (by rw [wordsBytes_length, full_length]; omega), full_length]
  have hword : ∀ i, i < ws.length → wordAt (putAt (full c) q (wordsBytes ws)) (q + 8 * i) = ws[i]?.getD 0 := fun i hi => wordAt_words (full c) ws q i (by rw [full_length]; omega) hi hws
  have hrest : ∀ i : Nat, i < 65536 → (i < q ∨ q + 8 * ws.length ≤ i) → (putAt (full c) q (wordsBytes ws))[i]?.getD 0 = c := by
    intro i hi hd
    rw [putAt_get _ _ _ (by rw [wordsBytes_length, full_length]; omega), wordsBytes_length]
    by_cases h1 : i < q
    · rw [if_pos h1, full_get _ _ hi]
    · rw [if_neg h1, if_neg (by omega), full_get _ _ hi]
  generalize putAt (full c) q (wordsBytes ws) = m at *
  have HL := hid hlen
  have HW := hid hword
  have HR := hid hrest
  have HI := hid hI
  clear hlen hword hrest hI
  go_wp2_with fail
  go_loopw [10] (fun i wr => ∃ j : Nat, j ≤ ws.length ∧ i = .int .i64 j ∧ Arena wr b g m ∧ Below w.heap.size w wr) (fun i _ => ws.length - (intOf i).toNat)
  case atStart => exact ⟨0, Nat.zero_le _, rfl, hA4, hB4⟩
  case round =>
    obtain ⟨j, hj, rfl, hA5, hB5⟩ := hrel
    clear hA4 hB4
    by_cases hlj : j < ws.length
    · have hI5 := HI.out.below hB5
      rcases hI5 with h | ⟨s, o, rfl, hs, hcc⟩
      · omega
      have h5 := hB5.size
      go_wp2_with fail
      refine (load_ok b g m _ _ hA5 (by omega) (by rw [HL.out]; omega) (by omega)).mono ?_
      rintro e w6 ⟨rfl, hb6⟩
      have hB6 := Below.of_below hB5 hB5.size hb6
      have hA6 := hA5.below hb6
      have hcj := (hb6.cell (p := ⟨s, o + j, none⟩) (Nat.lt_of_lt_of_le hs hB5.size)).trans (hcc j hlj)
      rw [show ((q : Int) + 8 * (j : Int)).toNat = q + 8 * j from by omega, HW.out j hlj]
      generalize ws[j]?.getD 0 = x at hcj
      clear hA5 hB5 hb6 hcc
      go_wp2_with fail
      exact ⟨⟨j + 1, by omega, by go_num, hA6, hB6⟩, by simp [intOf]; omega⟩
    · go_wp2_with fail
      refine (read_ok b g m 0 65536 _ hA5 (by omega) (by omega) (by rw [HL.out]; omega)).mono ?_
      rintro e w7 ⟨rfl, hr7, hb7, hs7⟩
      have hB7 := Below.of_below hB5 hB5.size hb7
      rw [show (0 : Int).toNat = 0 from rfl, show (65536 : Int).toNat = 65536 from rfl, List.drop_zero, List.take_of_length_le (by rw [HL.out]; omega)] at hr7
      rw [show (65536 : Int).toNat = 65536 from rfl]
      have HR7 := hid hr7
      clear hr7 hb7 hs7 hA5 hB5
      go_wp2_with fail
      go_loop [15] (fun i => ∃ k : Nat, (k : Int) ≤ 65536 ∧ i = .int .i64 k) (fun i => 65536 - (intOf i).toNat)
      case atStart => exact ⟨0, by omega, rfl⟩
      case round =>
        obtain ⟨k, hk, rfl⟩ := hrel
        by_cases hlt : (k : Int) < 65536
        · have hcell := cell_of_row _ _ k _ _ _ HR7.out
          rw [bv_get _ _ (by rw [HL.out]; omega)] at hcell
          by_cases h4 : (k : Int) < q
          · rw [HR.out k (by omega) (by omega)] at hcell
            go_wp2_with fail
            exact ⟨⟨k + 1, by omega, by go_num⟩, by simp [intOf]; omega⟩
          · by_cases h5 : (q : Int) + 8 * ws.length ≤ k
            · rw [HR.out k (by omega) (by omega)] at hcell
              go_wp2_with fail
              exact ⟨⟨k + 1, by omega, by go_num⟩, by simp [intOf]; omega⟩
            · have hd : decide ((q : Int) + 8 * ws.length ≤ k) = false := by simp; omega
              go_wp2_with fail
              exact ⟨⟨k + 1, by omega, by go_num⟩, by simp [intOf]; omega⟩
        · go_wp2_with fail
          go_ret
          exact ⟨rfl, hB7⟩

theorem own : ownKnob Try.prog.godebug = none := by kernel_rfl
theorem laidOut : laidOutB Try.prog = true := by kernel_rfl

/-- WHAT THE WALK IS TOLD OF A SLICE OF INTEGERS THAT CAME IN: it is nil; or it leads to a row of 'cap' cells, the numbers 'zs' (the first 'len' are its elements, the rest its spare room), each fitting its kind. -/
def IsRow (k : IntKind) (w : World) (a : Option Addr) (len cap : Nat) (zs : List Int) : Prop :=
  (a = none ∧ len = 0 ∧ cap = 0 ∧ zs = []) ∨
  ∃ x, a = some x ∧ len ≤ cap ∧ cap ≤ maxLen ∧ zs.length = cap ∧ (∀ i, i < zs.length → w.cell? (x.add i) = some (.int k (zs.getD i 0))) ∧ ∀ n ∈ zs, (Lit.int k n).wf = true

theorem walk (a0 : Int) (a1 : Option Addr) (len1 cap1 : Nat) (z1 : List Int) (a2 : Int) (w : World) (w0 : (Lit.int .u16 a0).wf = true) (w1 : IsRow .u64 w a1 len1 cap1 z1) (w2 : (Lit.int .u8 a2).wf = true) :
    Calls Try.prog 4 #[.int .u16 a0, .slice a1 len1 cap1, .int .u8 a2] w fun e w' => e = .returned (.bool true) ∧ Below w.heap.size w w' := by
  have b0 := bounds_u16 w0
  have b2 := bounds_u8 w2
  by_cases hl : (100 : Int) < len1
  · exact core_long a1 len1 cap1 a0 a2 w hl
  have hz : len1 ≤ z1.length := by rcases w1 with ⟨_, h, _, _⟩ | ⟨x, _, hlc, _, hz, _, _⟩ <;> omega
  have hlen : (z1.take len1).length = len1 := by simp; omega
  have hwd : Word (z1.take len1) := by
    intro i
    rw [List.getElem?_take]
    split
    · rcases w1 with ⟨_, _, _, h⟩ | ⟨x, _, _, _, _, _, hwf⟩
      · subst h; simp
      · have := range_u64 hwf i; omega
    · simp
  have hI : Ints .u64 w w.heap.size a1 (z1.take len1) := by
    by_cases h0 : len1 = 0
    · exact .inl (by omega)
    rcases w1 with ⟨_, h, _, _⟩ | ⟨x, rfl, hlc, hm, hz, hcell, hwf⟩
    · exact absurd h h0
    obtain ⟨s, o, rfl, hc⟩ := ints_at hcell (by omega)
    refine .inr ⟨s, o, rfl, block_lt_of_cell (hc 0 (by omega)), ?_⟩
    intro j hj
    rw [hlen] at hj
    rw [hc j (by omega)]
    simp [List.getD, hj]
  have := core a1 (z1.take len1) cap1 a0 a2 w (by omega) (by omega) (by omega) (by omega) (by omega) (by omega) hI hwd
  rw [hlen] at this
  exact this

set_option maxRecDepth 100000 in
theorem lifted (os : Os) (started : os.Started) (H : Type) (enc : TypeId × Value → H) :
    ReturnsInHanded {} Try.checked os 4 .any (Rows.arenaBackSpec.pre6 enc Try.prog Try.f4 Rows.arenaBackRow.domain false) (Rows.arenaBackSpec.post enc Try.prog Try.f4 false true false false) := by
  refine returnsInHanded_of_change (C := Try.checked) own started (by kernel_rfl) Try.func4
    (ChangeSpec.witness6 (enc := enc) (C := Try.checked) false ⟨#[], #[.int .u16 0, .slice none 0 0, .int .u8 0], []⟩ 8 (by kernel_rfl) (by kernel_rfl) (by kernel_rfl) (by kernel_rfl)) ?_
  intro W base args ds gs before hval0 hW hcnd _
  have hval : ∀ (j : Nat) t v, Try.f4.params[j]? = some t → args[j]? = some v → Value.okWide Try.prog W .any base t v := hval0
  have hW' := hW
  obtain ⟨p, q, hA0, hV, rfl, hfz, hnd⟩ := hW
  have hA : DataW.TrodAll enc Try.prog W 0 (fun _ => true) true Try.f4.params.toList args.toList ds p := hA0
  rw [Try.params4] at hA hval
  obtain ⟨v0, vs0, d0, ds0, p0, q0, hargs, rfl, rfl, h0, r0⟩ := trodAll_cons hA
  obtain ⟨v1, vs1, d1, ds1, p1, q1, rfl, rfl, rfl, h1, r1⟩ := trodAll_cons r0
  obtain ⟨v2, vs2, d2, ds2, p2, q2, rfl, rfl, rfl, h2, r2⟩ := trodAll_cons r1
  obtain ⟨rfl, rfl, rfl⟩ := trodAll_nil r2
  obtain rfl : args = #[v0, v1, v2] := by cases args; simp_all
  obtain ⟨rfl, rfl⟩ := trodVars_none hV
  obtain ⟨a0, rfl, rfl, rfl, w0⟩ := open_int Try.underlying52 (hval 0 52 v0 rfl rfl) h0
  obtain ⟨a1, len1, cap1, rfl⟩ := okWide_slice Try.underlying41 (hval 1 41 v1 rfl rfl)
  have k1 := h1
  have lt1 : ∀ x ∈ p1, x.block < W.heap.size := by obtain ⟨m, hm⟩ := k1; exact DataW.trod_lt m _ _ _ hm
  obtain ⟨z1, w1⟩ : ∃ zs, IsRow .u64 W a1 len1 cap1 zs := by
    obtain ⟨fuel, hf⟩ := h1
    rcases open_ints Try.underlying41 Try.underlying28 (by kernel_rfl) hf with ⟨hcs, _⟩ | ⟨x, l, c, zs, hcs, _, hl, hm, hz, _, hcell, hwz⟩
    · simp [Value.cells] at hcs
      obtain ⟨rfl, rfl, rfl⟩ := hcs
      exact ⟨[], .inl ⟨rfl, rfl, rfl, rfl⟩⟩
    · simp [Value.cells] at hcs
      obtain ⟨rfl, rfl, rfl⟩ := hcs
      exact ⟨zs, .inr ⟨_, rfl, hl, hm, by simpa using hz, hcell, hwz⟩⟩
  obtain ⟨a2, rfl, rfl, rfl, w2⟩ := open_int Try.underlying5 (hval 2 5 v2 rfl rfl) h2
  clear hA0 hval0
  refine (walk a0 a1 len1 cap1 z1 a2 W w0 w1 w2).mono fun e W' ⟨he, bel⟩ => ?_
  subst he
  exact ⟨_, rfl, _, _, _, [], _, [], hW', trodAll_mk1 (shut_bool Try.underlying4 _), (trodAll_cons_mk (shut_int Try.underlying52 w0) (trodAll_cons_mk (Below.trod laidOut (by kernel_rfl) (of_decide_eq_true (by kernel_rfl)) k1 bel lt1) (trodAll_cons_mk (shut_int Try.underlying5 w2) trodAll_mk0))), rfl, bel.frame _, fun h => by cases h⟩

theorem proved : Rows.ArenaBackSaid :=
  OpenClaim.holds_of_wide 4 Try.f4 rfl rfl rfl rfl rfl rfl rfl ⟨rfl, rfl, rfl, rfl, rfl⟩ rfl rfl rfl rfl rfl (by kernel_rfl) Try.func4 (by kernel_rfl)
    (of_decide_eq_true (by kernel_rfl)) (by unfold Func.isWrapper; first | (rw [if_pos (by decide +kernel)]; kernel_rfl) | (rw [if_neg (by decide +kernel)]; exact ⟨rfl, rfl⟩))
    (fun os started H enc _ => lifted os started H enc)

end Go.Proofs.Ytaoahbobofdimaa.arenaBack
