/- For every list of acts: a block that is taken is of its order, at an address that its size divides, and no two free buddies stand side by side: BuddyApart returns true. Condition: math/bits' own tables start as the program's text lays them (the card ties that). -/
import Derived.Test.YtcacgickbmfjnaaDoorCards
import Derived.Test.YtcacgickbmfjnaaDoorTie
import Derived.Test.YtcacgickbmfjnaaDoorSm
namespace Go.Proofs.YtcacgickbmfjnaaDoor.buddyApart
open Go.ChangeShapes Go.WideShapes Go.ChangeAt Go.RowKit Go.Proofs.YtcacgickbmfjnaaDoor

theorem core_long (a : Option Addr) (len cap : Nat) (w : World) (hT : Tab w) (hl : (100 : Int) < len) :
    Calls Tryd.prog 5 #[.slice a len cap] w fun e w' => e = .returned (.bool true) ∧ Below w.heap.size w w' := by
  have HT := hid hT
  clear hT
  go_enter Tryd.func5, Tryd.ntmps5
  go_wp2_with fail
  refine (alive_true _ HT.out).mono ?_
  rintro e w1 ⟨rfl, hb1⟩
  go_wp2_with fail
  go_ret
  exact ⟨rfl, hb1⟩

theorem order_x (w : World) (p m K : Nat) (bf gf : Nat → Nat) (B : St) (c o n : Nat) (a : Int) (hG : Good w p m K bf gf B c) (hb : B o n = .used) (ha : a = addr o n) (hw : (Lit.int .i64 a).wf = true) :
    Calls Tryd.prog 12 #[.pointer (some ⟨p, 0, none⟩), .int .i64 a] w fun e w' => e = .returned (.int .i64 (o : Int)) ∧ w' = w := by
  refine (order_any w p m K bf gf B c a hG.2.2 hw).mono ?_
  rintro e w' ⟨r, rfl, h | ⟨k, i, rfl, hb', ha'⟩, rfl⟩
  · exact (h.2 o n hb ha).elim
  · obtain ⟨rfl, rfl⟩ := addr_inj hG.1 (by rw [hb]; simp) (by rw [hb']; simp) (ha.symm.trans ha')
    exact ⟨rfl, rfl⟩

theorem halves {K : Nat} {B : St} {L : List (Nat × Nat)} (hi : Inv K B) (hL : Lst B .free L) {j p1 p2 k : Nat} (h1 : L[j]? = some (p1, k)) (h2 : L[j + 1]? = some (p2, k)) : p1 * 1024 / (1024 * 2 ^ k) / 2 ≠ p2 * 1024 / (1024 * 2 ^ k) / 2 := by
  have e : ∀ p, p * 1024 / (1024 * 2 ^ k) = p / 2 ^ k := fun p => by
    rw [Nat.mul_comm p 1024, Nat.mul_div_mul_left _ _ (by omega)]
  rw [e, e]
  intro hd
  refine apart hi hL (List.mem_of_getElem? h1) (List.mem_of_getElem? h2) ?_ hd
  intro he
  obtain ⟨l1, e1⟩ := List.getElem?_eq_some_iff.1 h1
  obtain ⟨l2, e2⟩ := List.getElem?_eq_some_iff.1 h2
  have := List.pairwise_iff_getElem.1 hL.rise j (j + 1) l1 l2 (by omega)
  rw [e1, e2] at this
  simp at this
  omega

set_option maxRecDepth 100000 in
set_option maxHeartbeats 4000000 in
theorem core (a : Option Addr) (len cap : Nat) (w : World) (hT : Tab w) (hA : Acts w a len) (hl : (len : Int) ≤ 100) :
    Calls Tryd.prog 5 #[.slice a len cap] w fun e w' => e = .returned (.bool true) ∧ Below w.heap.size w w' := by
  have HT := hid hT
  have HA := hid hA
  have hpos := hT.pos
  clear hT hA
  go_enter Tryd.func5, Tryd.ntmps5
  go_wp2_with fail
  refine (alive_true _ HT.out).mono ?_
  rintro e w1 ⟨rfl, hb1⟩
  go_wp2_with fail
  refine (newG w1 (HT.out.below hb1 hpos)).mono ?_
  rintro e w2 ⟨p, m, bf, gf, rfl, hG2, hown, hb2⟩
  have hX2 := Below.of_below hb1 hb1.size hb2
  have HG2 := hid hG2
  have HOWN : Hid (∀ x, Own m 7 gf x → w.heap.size ≤ x) := fun x hx => Nat.le_trans hb1.size (hown x hx)
  clear hG2 hown hb1 hb2
  go_wp2_with fail
  go_loopw [4] (fun t wr => ∃ j : Nat, j ≤ len ∧ t = .int .i64 (j : Int) ∧ (∃ B, Hid (Good wr p m 7 bf gf B j)) ∧ Below w.heap.size w wr) (fun t _ => len - (intOf t).toNat)
  case atStart => exact ⟨0, Nat.zero_le _, rfl, ⟨_, HG2⟩, hX2⟩
  case round =>
    obtain ⟨j, hj, rfl, ⟨B, hG⟩, hX⟩ := hrel
    clear HG2 hX2
    by_cases hlj : j < len
    · go_wp2_with fail
      refine (got_used wr p m 7 bf gf B j hG.out (by omega)).mono ?_
      rintro e w3 ⟨aU, cU, U, rfl, hU, hUl, hRU, hb3⟩
      have hX3 := Below.of_below hX hX.size hb3
      have HG3 := hid (hG.out.below hb3)
      have hbase := hid hG.out.lown
      obtain ⟨s, o, kd, n, rfl, hs, c0, c1, wk, wn⟩ := HA.out.at hX3 (Nat.le_refl _) hlj
      have HU := hid (And.intro hU hRU)
      clear hU hRU hb3 hX hG
      have hj1 : (j : Int) < (len : Int) := by omega
      by_cases hk0 : kd = 0
      · subst hk0
        go_wp2_with fail
        refine (took_any w3 p m 7 bf gf B j n HG3.out (HT.out.below hX3 hpos) (by omega)).mono ?_
        rintro e w4 ⟨at4, er4, B4, rfl, ht4, hG4, hcase⟩
        have hX4 := Below.of_turn hX3 hX3.size ht4 HOWN.out
        have HG4 := hid hG4
        have hs4 : s < w3.heap.size := Nat.lt_of_lt_of_le hs hX3.size
        have c14 : w4.cell? ⟨s, o + j * 2 + 1, none⟩ = some (.int .i64 n) := (World.cell?_of_block (ht4.block s hs4 (fun hx => by have := HOWN.out s hx; omega))).trans c1
        have her : er4 = 0 ∨ (er4 == 0) = false := by
          rcases hcase with ⟨_, _, ⟨rfl, _⟩ | ⟨rfl, _⟩⟩ | ⟨rfl, _⟩
          · exact .inr rfl
          · exact .inr rfl
          · exact .inl rfl
        have HCASE := hid hcase
        clear hcase hG4 ht4 HG3 hX3 HU c0 c1 hs4
        rcases her with rfl | her
        · obtain ⟨oo, nn, rfl, hoo, hat, hbu⟩ : ∃ oo nn : Nat, n = (oo : Int) ∧ oo ≤ 7 ∧ at4 = addr oo nn ∧ B4 oo nn = .used := by
            rcases HCASE.out with ⟨_, _, ⟨h, _⟩ | ⟨h, _⟩⟩ | ⟨_, oo, k, i, nn, h1, h2, _, h4, h5, _, h7⟩
            · cases h
            · cases h
            · exact ⟨oo, nn, h1, h2, h4.trans h5.symm, (h7 oo nn).2 (.inr ⟨rfl, rfl⟩)⟩
          obtain ⟨q, hq⟩ : ∃ q, q = 2 ^ oo := ⟨_, rfl⟩
          have hsk := shl_eq oo q hq
          have hq1 : 0 < q := by rw [hq]; exact Nat.two_pow_pos _
          have hq2 : q ≤ 128 := by rw [hq]; exact Nat.pow_le_pow_right (n := 2) (by omega) hoo
          have hal : nn * 2 ^ oo + 2 ^ oo ≤ 2 ^ 7 := block_lt HG4.out.1 (by rw [hbu]; simp)
          obtain ⟨aa, haa⟩ : ∃ aa, aa = nn * q * 1024 := ⟨_, rfl⟩
          have hat' : at4 = (aa : Int) := by rw [hat, haa, hq]; rfl
          have hab : aa ≤ 131072 := by rw [haa, hq]; omega
          obtain ⟨sz, hsz⟩ : ∃ sz, sz = 1024 * q := ⟨_, rfl⟩
          have hsz' : (1024 : Int) * (q : Int) = (sz : Int) := by omega
          have hrem0 : aa % sz = 0 := by rw [haa, hsz, Nat.mul_assoc, Nat.mul_comm q 1024]; exact Nat.mul_mod_left _ _
          have hrem : (aa : Int) % (sz : Int) = 0 := by rw [← Int.natCast_emod, hrem0]; rfl
          have hrem' : (aa : Int).tmod (sz : Int) = 0 := by rw [Int.tmod_eq_emod_of_nonneg (by omega)]; exact hrem
          have hsz0 : ((sz : Int) == 0) = false := by rw [beq_eq_false_iff_ne]; omega
          have hsz1 : (0 : Int) < (sz : Int) := by omega
          have hwf : (Lit.int .i64 (aa : Int)).wf = true := wf_i64 (by omega) (by omega)
          have ho64 : oo < 64 := by omega
          have HBU := hid (And.intro hbu (hat'.symm.trans hat))
          subst hat'
          clear HCASE hq hat hbu hal haa hrem0 hsz
          have HGD : Hid (∀ n, Good (w4.drewN n) p m 7 bf gf B4 (j + 1)) := fun n => ⟨HG4.out.1, HG4.out.2.1, HG4.out.2.2.drewN n⟩
          go_wp2_with fail
          go_quiet ((go_at_call 12; exact Calls.quiet_of_same (order_x _ p m 7 bf gf B4 (j + 1) oo nn _ (HGD.out _) HBU.out.1 HBU.out.2 hwf)))
          have hX4 := Below.drewN hX4 nq
          have HG4 : Hid (Good (w4.drewN nq) p m 7 bf gf B4 (j + 1)) := ⟨HG4.out.1, HG4.out.2.1, HG4.out.2.2.drewN nq⟩
          generalize w4.drewN nq = w4 at *
          go_wp2_with fail
          refine (got_free w4 p m 7 bf gf B4 (j + 1) HG4.out (HT.out.below hX4 hpos)).mono ?_
          rintro e w5 ⟨aF, cF, F, rfl, hF, hFl, hRF, hb5⟩
          have hX5 := Below.of_below hX4 hX4.size hb5
          have HG5 := hid (HG4.out.below hb5)
          have HF := hid (And.intro hF hRF)
          have HI5 := hid HG5.out.1
          clear hF hRF hb5 HG4 hX4
          go_wp2_with fail
          go_loopw [9] (fun t wq => ∃ k : Nat, 1 ≤ k ∧ t = .int .i64 (k : Int) ∧ Hid (Good wq p m 7 bf gf B4 (j + 1)) ∧ Below w.heap.size w wq ∧ Below w5.heap.size w5 wq) (fun t _ => F.length - (intOf t).toNat)
          case atStart => exact ⟨1, by omega, rfl, HG5, hX5, Below.refl _ _⟩
          case round =>
            obtain ⟨k, hk, rfl, HGq, hXq, hbq⟩ := hrel
            clear hX5 HG5
            by_cases hkl : k < F.length
            · obtain ⟨k', rfl⟩ : ∃ k', k = k' + 1 := ⟨k - 1, by omega⟩
              obtain ⟨⟨p1, o1⟩, hx1⟩ : ∃ x, F[k']? = some x := ⟨_, List.getElem?_eq_getElem (by omega)⟩
              obtain ⟨⟨p2, o2⟩, hx2⟩ : ∃ x, F[k' + 1]? = some x := ⟨_, List.getElem?_eq_getElem hkl⟩
              obtain ⟨g, rfl, c0, c1⟩ := (HF.out.2.below hbq).at hx1
              obtain ⟨g2, eg, d0, d1⟩ := (HF.out.2.below hbq).at hx2
              obtain rfl : g = g2 := by simpa using eg
              have ho1 := (HF.out.1.lt HI5.out (by simp) (List.mem_of_getElem? hx1))
              have ho2 := (HF.out.1.lt HI5.out (by simp) (List.mem_of_getElem? hx2))
              have hhalf := hid (fun e : o1 = o2 => halves HI5.out HF.out.1 hx1 (by rw [e]; exact hx2))
              have hk1 : ((k' + 1 : Nat) : Int) - 1 = (k' : Int) := by omega
              have hkk : ((k' + 1 : Nat) : Int) < (F.length : Int) := by omega
              have hkk2 : (k' : Int) < (F.length : Int) := by omega
              obtain ⟨q, hq⟩ : ∃ q, q = 2 ^ o2 := ⟨_, rfl⟩
              have hsk := shl_eq o2 q hq
              have hq1 : 0 < q := by rw [hq]; exact Nat.two_pow_pos _
              have hq2 : q ≤ 128 := by rw [hq]; exact Nat.pow_le_pow_right (n := 2) (by omega) ho2.1
              obtain ⟨sz, hsz⟩ : ∃ sz, sz = 1024 * q := ⟨_, rfl⟩
              have hsz' : (1024 : Int) * (q : Int) = (sz : Int) := by omega
              have hsz0 : ((sz : Int) == 0) = false := by rw [beq_eq_false_iff_ne]; omega
              have hsz1 : (0 : Int) < (sz : Int) := by omega
              obtain ⟨a1, ha1⟩ : ∃ a1, a1 = p1 * 1024 := ⟨_, rfl⟩
              obtain ⟨a2, ha2⟩ : ∃ a2, a2 = p2 * 1024 := ⟨_, rfl⟩
              have hp1 : p1 ≤ 128 := by have := Nat.two_pow_pos o1; have := ho1.2; omega
              have hp2 : p2 ≤ 128 := by have := Nat.two_pow_pos o2; have := ho2.2; omega
              rw [← ha1] at c0
              rw [← ha2] at d0
              have hb1 : a1 ≤ 131072 := by omega
              have hb2 : a2 ≤ 131072 := by omega
              have ho64 : o2 < 64 := by omega
              obtain ⟨y1, hy1⟩ : ∃ y1, y1 = a1 / sz := ⟨_, rfl⟩
              obtain ⟨y2, hy2⟩ : ∃ y2, y2 = a2 / sz := ⟨_, rfl⟩
              have hd1 : (a1 : Int) / (sz : Int) = (y1 : Int) := by rw [hy1]; exact (Int.natCast_ediv _ _).symm
              have hd2 : (a2 : Int) / (sz : Int) = (y2 : Int) := by rw [hy2]; exact (Int.natCast_ediv _ _).symm
              have hd1' : (a1 : Int).tdiv (sz : Int) = (y1 : Int) := by rw [Int.tdiv_eq_ediv_of_nonneg (by omega)]; exact hd1
              have hd2' : (a2 : Int).tdiv (sz : Int) = (y2 : Int) := by rw [Int.tdiv_eq_ediv_of_nonneg (by omega)]; exact hd2
              have hy1b : y1 ≤ 131072 := Nat.le_trans (by rw [hy1]; exact Nat.div_le_self _ _) hb1
              have hy2b : y2 ≤ 131072 := Nat.le_trans (by rw [hy2]; exact Nat.div_le_self _ _) hb2
              have hneq : Hid (o1 = o2 → y1 / 2 ≠ y2 / 2) := fun e => by
                have := hhalf.out e
                rw [hy1, hy2, ha1, ha2, hsz, hq, ← e]; exact this
              clear hx1 hx2 eg hhalf hq hsz ha1 ha2 hy1 hy2 ho1 hp1 hp2
              by_cases he : o1 = o2
              · subst he
                have hne : (((y1 : Int) / 2) == ((y2 : Int) / 2)) = false := by have := hneq.out rfl; rw [beq_eq_false_iff_ne]; omega
                clear hneq
                go_wp2_with fail
                go_quiet (fail)
                go_wp2_with fail
                exact ⟨⟨k' + 1 + 1, by omega, by go_num, ⟨HGq.out.1, HGq.out.2.1, HGq.out.2.2.drewN _⟩, Below.drewN hXq _, Below.drewN hbq _⟩, by simp [intOf]; omega⟩
              · have hne : ((o1 : Int) == (o2 : Int)) = false := by rw [beq_eq_false_iff_ne]; omega
                clear hneq
                go_wp2_with fail
                go_quiet (fail)
                go_wp2_with fail
                exact ⟨⟨k' + 1 + 1, by omega, by go_num, ⟨HGq.out.1, HGq.out.2.1, HGq.out.2.2.drewN _⟩, Below.drewN hXq _, Below.drewN hbq _⟩, by simp [intOf]; omega⟩
            · go_wp2_with fail
              exact ⟨⟨j + 1, by omega, by go_num, ⟨_, HGq⟩, hXq⟩, by simp [intOf]; omega⟩
        · clear HCASE
          go_wp2_with fail
          go_quiet (fail)
          have hX4 := Below.drewN hX4 nq
          have HG4 : Hid (Good (w4.drewN nq) p m 7 bf gf B4 (j + 1)) := ⟨HG4.out.1, HG4.out.2.1, HG4.out.2.2.drewN nq⟩
          generalize w4.drewN nq = w4 at *
          go_wp2_with fail
          refine (got_free w4 p m 7 bf gf B4 (j + 1) HG4.out (HT.out.below hX4 hpos)).mono ?_
          rintro e w5 ⟨aF, cF, F, rfl, hF, hFl, hRF, hb5⟩
          have hX5 := Below.of_below hX4 hX4.size hb5
          have HG5 := hid (HG4.out.below hb5)
          have HF := hid (And.intro hF hRF)
          have HI5 := hid HG5.out.1
          clear hF hRF hb5 HG4 hX4
          go_wp2_with fail
          go_loopw [9] (fun t wq => ∃ k : Nat, 1 ≤ k ∧ t = .int .i64 (k : Int) ∧ Hid (Good wq p m 7 bf gf B4 (j + 1)) ∧ Below w.heap.size w wq ∧ Below w5.heap.size w5 wq) (fun t _ => F.length - (intOf t).toNat)
          case atStart => exact ⟨1, by omega, rfl, HG5, hX5, Below.refl _ _⟩
          case round =>
            obtain ⟨k, hk, rfl, HGq, hXq, hbq⟩ := hrel
            clear hX5 HG5
            by_cases hkl : k < F.length
            · obtain ⟨k', rfl⟩ : ∃ k', k = k' + 1 := ⟨k - 1, by omega⟩
              obtain ⟨⟨p1, o1⟩, hx1⟩ : ∃ x, F[k']? = some x := ⟨_, List.getElem?_eq_getElem (by omega)⟩
              obtain ⟨⟨p2, o2⟩, hx2⟩ : ∃ x, F[k' + 1]? = some x := ⟨_, List.getElem?_eq_getElem hkl⟩
              obtain ⟨g, rfl, c0, c1⟩ := (HF.out.2.below hbq).at hx1
              obtain ⟨g2, eg, d0, d1⟩ := (HF.out.2.below hbq).at hx2
              obtain rfl : g = g2 := by simpa using eg
              have ho1 := (HF.out.1.lt HI5.out (by simp) (List.mem_of_getElem? hx1))
              have ho2 := (HF.out.1.lt HI5.out (by simp) (List.mem_of_getElem? hx2))
              have hhalf := hid (fun e : o1 = o2 => halves HI5.out HF.out.1 hx1 (by rw [e]; exact hx2))
              have hk1 : ((k' + 1 : Nat) : Int) - 1 = (k' : Int) := by omega
              have hkk : ((k' + 1 : Nat) : Int) < (F.length : Int) := by omega
              have hkk2 : (k' : Int) < (F.length : Int) := by omega
              obtain ⟨q, hq⟩ : ∃ q, q = 2 ^ o2 := ⟨_, rfl⟩
              have hsk := shl_eq o2 q hq
              have hq1 : 0 < q := by rw [hq]; exact Nat.two_pow_pos _
              have hq2 : q ≤ 128 := by rw [hq]; exact Nat.pow_le_pow_right (n := 2) (by omega) ho2.1
              obtain ⟨sz, hsz⟩ : ∃ sz, sz = 1024 * q := ⟨_, rfl⟩
              have hsz' : (1024 : Int) * (q : Int) = (sz : Int) := by omega
              have hsz0 : ((sz : Int) == 0) = false := by rw [beq_eq_false_iff_ne]; omega
              have hsz1 : (0 : Int) < (sz : Int) := by omega
              obtain ⟨a1, ha1⟩ : ∃ a1, a1 = p1 * 1024 := ⟨_, rfl⟩
              obtain ⟨a2, ha2⟩ : ∃ a2, a2 = p2 * 1024 := ⟨_, rfl⟩
              have hp1 : p1 ≤ 128 := by have := Nat.two_pow_pos o1; have := ho1.2; omega
              have hp2 : p2 ≤ 128 := by have := Nat.two_pow_pos o2; have := ho2.2; omega
              rw [← ha1] at c0
              rw [← ha2] at d0
              have hb1 : a1 ≤ 131072 := by omega
              have hb2 : a2 ≤ 131072 := by omega
              have ho64 : o2 < 64 := by omega
              obtain ⟨y1, hy1⟩ : ∃ y1, y1 = a1 / sz := ⟨_, rfl⟩
              obtain ⟨y2, hy2⟩ : ∃ y2, y2 = a2 / sz := ⟨_, rfl⟩
              have hd1 : (a1 : Int) / (sz : Int) = (y1 : Int) := by rw [hy1]; exact (Int.natCast_ediv _ _).symm
              have hd2 : (a2 : Int) / (sz : Int) = (y2 : Int) := by rw [hy2]; exact (Int.natCast_ediv _ _).symm
              have hd1' : (a1 : Int).tdiv (sz : Int) = (y1 : Int) := by rw [Int.tdiv_eq_ediv_of_nonneg (by omega)]; exact hd1
              have hd2' : (a2 : Int).tdiv (sz : Int) = (y2 : Int) := by rw [Int.tdiv_eq_ediv_of_nonneg (by omega)]; exact hd2
              have hy1b : y1 ≤ 131072 := Nat.le_trans (by rw [hy1]; exact Nat.div_le_self _ _) hb1
              have hy2b : y2 ≤ 131072 := Nat.le_trans (by rw [hy2]; exact Nat.div_le_self _ _) hb2
              have hneq : Hid (o1 = o2 → y1 / 2 ≠ y2 / 2) := fun e => by
                have := hhalf.out e
                rw [hy1, hy2, ha1, ha2, hsz, hq, ← e]; exact this
              clear hx1 hx2 eg hhalf hq hsz ha1 ha2 hy1 hy2 ho1 hp1 hp2
              by_cases he : o1 = o2
              · subst he
                have hne : (((y1 : Int) / 2) == ((y2 : Int) / 2)) = false := by have := hneq.out rfl; rw [beq_eq_false_iff_ne]; omega
                clear hneq
                go_wp2_with fail
                go_quiet (fail)
                go_wp2_with fail
                exact ⟨⟨k' + 1 + 1, by omega, by go_num, ⟨HGq.out.1, HGq.out.2.1, HGq.out.2.2.drewN _⟩, Below.drewN hXq _, Below.drewN hbq _⟩, by simp [intOf]; omega⟩
              · have hne : ((o1 : Int) == (o2 : Int)) = false := by rw [beq_eq_false_iff_ne]; omega
                clear hneq
                go_wp2_with fail
                go_quiet (fail)
                go_wp2_with fail
                exact ⟨⟨k' + 1 + 1, by omega, by go_num, ⟨HGq.out.1, HGq.out.2.1, HGq.out.2.2.drewN _⟩, Below.drewN hXq _, Below.drewN hbq _⟩, by simp [intOf]; omega⟩
            · go_wp2_with fail
              exact ⟨⟨j + 1, by omega, by go_num, ⟨_, HGq⟩, hXq⟩, by simp [intOf]; omega⟩
      · have hk1 : (kd == 0) = false := by simpa using hk0
        by_cases hcond : 0 ≤ n ∧ 0 < U.length
        · obtain ⟨nn, rfl⟩ := Int.eq_ofNat_of_zero_le hcond.1
          have hul : 0 < U.length := hcond.2
          obtain ⟨t, ht⟩ : ∃ t, t = nn % U.length := ⟨_, rfl⟩
          have htl : t < U.length := by rw [ht]; exact Nat.mod_lt _ hul
          obtain ⟨⟨pp, kk⟩, hx⟩ : ∃ x, U[t]? = some x := ⟨_, List.getElem?_eq_getElem htl⟩
          obtain ⟨ii, hbu, hadr⟩ := HU.out.1.blk hx
          obtain ⟨g, rfl, d0, d1⟩ := HU.out.2.at hx
          have hmod : (nn : Int) % (U.length : Int) = (t : Int) := by rw [ht]; exact (Int.natCast_emod nn U.length).symm
          have hmod' : (nn : Int).tmod (U.length : Int) = (t : Int) := by rw [Int.tmod_eq_emod_of_nonneg (by omega)]; exact hmod
          have hu0 : ((U.length : Int) == 0) = false := by rw [beq_eq_false_iff_ne]; omega
          have hu1 : (0 : Int) < (U.length : Int) := by omega
          have ht1 : (t : Int) < (U.length : Int) := by omega
          have hnb := (bounds_i64 wn).2
          have HBU := hid (And.intro hbu hadr)
          clear hbu hadr hx ht hcond
          go_wp2_with fail
          refine (gave_any w3 p m 7 bf gf B j kk ii _ HG3.out HBU.out.1 HBU.out.2).mono ?_
          rintro e w4 ⟨B4, rfl, ht4, hG4, _⟩
          have hX4 := Below.of_turn hX3 hX3.size ht4 HOWN.out
          have HG4 : Hid (Good w4 p m 7 bf gf B4 (j + 1)) := hG4.more (by omega)
          clear hG4 ht4 HG3 hX3 HU c0 c1 d0 d1
          go_wp2_with fail
          refine (got_free w4 p m 7 bf gf B4 (j + 1) HG4.out (HT.out.below hX4 hpos)).mono ?_
          rintro e w5 ⟨aF, cF, F, rfl, hF, hFl, hRF, hb5⟩
          have hX5 := Below.of_below hX4 hX4.size hb5
          have HG5 := hid (HG4.out.below hb5)
          have HF := hid (And.intro hF hRF)
          have HI5 := hid HG5.out.1
          clear hF hRF hb5 HG4 hX4
          go_wp2_with fail
          go_loopw [9] (fun t wq => ∃ k : Nat, 1 ≤ k ∧ t = .int .i64 (k : Int) ∧ Hid (Good wq p m 7 bf gf B4 (j + 1)) ∧ Below w.heap.size w wq ∧ Below w5.heap.size w5 wq) (fun t _ => F.length - (intOf t).toNat)
          case atStart => exact ⟨1, by omega, rfl, HG5, hX5, Below.refl _ _⟩
          case round =>
            obtain ⟨k, hk, rfl, HGq, hXq, hbq⟩ := hrel
            clear hX5 HG5
            by_cases hkl : k < F.length
            · obtain ⟨k', rfl⟩ : ∃ k', k = k' + 1 := ⟨k - 1, by omega⟩
              obtain ⟨⟨p1, o1⟩, hx1⟩ : ∃ x, F[k']? = some x := ⟨_, List.getElem?_eq_getElem (by omega)⟩
              obtain ⟨⟨p2, o2⟩, hx2⟩ : ∃ x, F[k' + 1]? = some x := ⟨_, List.getElem?_eq_getElem hkl⟩
              obtain ⟨g, rfl, c0, c1⟩ := (HF.out.2.below hbq).at hx1
              obtain ⟨g2, eg, d0, d1⟩ := (HF.out.2.below hbq).at hx2
              obtain rfl : g = g2 := by simpa using eg
              have ho1 := (HF.out.1.lt HI5.out (by simp) (List.mem_of_getElem? hx1))
              have ho2 := (HF.out.1.lt HI5.out (by simp) (List.mem_of_getElem? hx2))
              have hhalf := hid (fun e : o1 = o2 => halves HI5.out HF.out.1 hx1 (by rw [e]; exact hx2))
              have hk1 : ((k' + 1 : Nat) : Int) - 1 = (k' : Int) := by omega
              have hkk : ((k' + 1 : Nat) : Int) < (F.length : Int) := by omega
              have hkk2 : (k' : Int) < (F.length : Int) := by omega
              obtain ⟨q, hq⟩ : ∃ q, q = 2 ^ o2 := ⟨_, rfl⟩
              have hsk := shl_eq o2 q hq
              have hq1 : 0 < q := by rw [hq]; exact Nat.two_pow_pos _
              have hq2 : q ≤ 128 := by rw [hq]; exact Nat.pow_le_pow_right (n := 2) (by omega) ho2.1
              obtain ⟨sz, hsz⟩ : ∃ sz, sz = 1024 * q := ⟨_, rfl⟩
              have hsz' : (1024 : Int) * (q : Int) = (sz : Int) := by omega
              have hsz0 : ((sz : Int) == 0) = false := by rw [beq_eq_false_iff_ne]; omega
              have hsz1 : (0 : Int) < (sz : Int) := by omega
              obtain ⟨a1, ha1⟩ : ∃ a1, a1 = p1 * 1024 := ⟨_, rfl⟩
              obtain ⟨a2, ha2⟩ : ∃ a2, a2 = p2 * 1024 := ⟨_, rfl⟩
              have hp1 : p1 ≤ 128 := by have := Nat.two_pow_pos o1; have := ho1.2; omega
              have hp2 : p2 ≤ 128 := by have := Nat.two_pow_pos o2; have := ho2.2; omega
              rw [← ha1] at c0
              rw [← ha2] at d0
              have hb1 : a1 ≤ 131072 := by omega
              have hb2 : a2 ≤ 131072 := by omega
              have ho64 : o2 < 64 := by omega
              obtain ⟨y1, hy1⟩ : ∃ y1, y1 = a1 / sz := ⟨_, rfl⟩
              obtain ⟨y2, hy2⟩ : ∃ y2, y2 = a2 / sz := ⟨_, rfl⟩
              have hd1 : (a1 : Int) / (sz : Int) = (y1 : Int) := by rw [hy1]; exact (Int.natCast_ediv _ _).symm
              have hd2 : (a2 : Int) / (sz : Int) = (y2 : Int) := by rw [hy2]; exact (Int.natCast_ediv _ _).symm
              have hd1' : (a1 : Int).tdiv (sz : Int) = (y1 : Int) := by rw [Int.tdiv_eq_ediv_of_nonneg (by omega)]; exact hd1
              have hd2' : (a2 : Int).tdiv (sz : Int) = (y2 : Int) := by rw [Int.tdiv_eq_ediv_of_nonneg (by omega)]; exact hd2
              have hy1b : y1 ≤ 131072 := Nat.le_trans (by rw [hy1]; exact Nat.div_le_self _ _) hb1
              have hy2b : y2 ≤ 131072 := Nat.le_trans (by rw [hy2]; exact Nat.div_le_self _ _) hb2
              have hneq : Hid (o1 = o2 → y1 / 2 ≠ y2 / 2) := fun e => by
                have := hhalf.out e
                rw [hy1, hy2, ha1, ha2, hsz, hq, ← e]; exact this
              clear hx1 hx2 eg hhalf hq hsz ha1 ha2 hy1 hy2 ho1 hp1 hp2
              by_cases he : o1 = o2
              · subst he
                have hne : (((y1 : Int) / 2) == ((y2 : Int) / 2)) = false := by have := hneq.out rfl; rw [beq_eq_false_iff_ne]; omega
                clear hneq
                go_wp2_with fail
                go_quiet (fail)
                go_wp2_with fail
                exact ⟨⟨k' + 1 + 1, by omega, by go_num, ⟨HGq.out.1, HGq.out.2.1, HGq.out.2.2.drewN _⟩, Below.drewN hXq _, Below.drewN hbq _⟩, by simp [intOf]; omega⟩
              · have hne : ((o1 : Int) == (o2 : Int)) = false := by rw [beq_eq_false_iff_ne]; omega
                clear hneq
                go_wp2_with fail
                go_quiet (fail)
                go_wp2_with fail
                exact ⟨⟨k' + 1 + 1, by omega, by go_num, ⟨HGq.out.1, HGq.out.2.1, HGq.out.2.2.drewN _⟩, Below.drewN hXq _, Below.drewN hbq _⟩, by simp [intOf]; omega⟩
            · go_wp2_with fail
              exact ⟨⟨j + 1, by omega, by go_num, ⟨_, HGq⟩, hXq⟩, by simp [intOf]; omega⟩
        · have HG4 : Hid (Good w3 p m 7 bf gf B (j + 1)) := HG3.out.more (by omega)
          clear HG3 HU
          by_cases hn0 : 0 ≤ n
          · have hul : ¬ ((0 : Int) < (U.length : Int)) := by omega
            clear hcond
            go_wp2_with fail
            refine (got_free w3 p m 7 bf gf B (j + 1) HG4.out (HT.out.below hX3 hpos)).mono ?_
            rintro e w5 ⟨aF, cF, F, rfl, hF, hFl, hRF, hb5⟩
            have hX5 := Below.of_below hX3 hX3.size hb5
            have HG5 := hid (HG4.out.below hb5)
            have HF := hid (And.intro hF hRF)
            have HI5 := hid HG5.out.1
            clear hF hRF hb5 HG4 hX3
            go_wp2_with fail
            go_loopw [9] (fun t wq => ∃ k : Nat, 1 ≤ k ∧ t = .int .i64 (k : Int) ∧ Hid (Good wq p m 7 bf gf B (j + 1)) ∧ Below w.heap.size w wq ∧ Below w5.heap.size w5 wq) (fun t _ => F.length - (intOf t).toNat)
            case atStart => exact ⟨1, by omega, rfl, HG5, hX5, Below.refl _ _⟩
            case round =>
              obtain ⟨k, hk, rfl, HGq, hXq, hbq⟩ := hrel
              clear hX5 HG5
              by_cases hkl : k < F.length
              · obtain ⟨k', rfl⟩ : ∃ k', k = k' + 1 := ⟨k - 1, by omega⟩
                obtain ⟨⟨p1, o1⟩, hx1⟩ : ∃ x, F[k']? = some x := ⟨_, List.getElem?_eq_getElem (by omega)⟩
                obtain ⟨⟨p2, o2⟩, hx2⟩ : ∃ x, F[k' + 1]? = some x := ⟨_, List.getElem?_eq_getElem hkl⟩
                obtain ⟨g, rfl, c0, c1⟩ := (HF.out.2.below hbq).at hx1
                obtain ⟨g2, eg, d0, d1⟩ := (HF.out.2.below hbq).at hx2
                obtain rfl : g = g2 := by simpa using eg
                have ho1 := (HF.out.1.lt HI5.out (by simp) (List.mem_of_getElem? hx1))
                have ho2 := (HF.out.1.lt HI5.out (by simp) (List.mem_of_getElem? hx2))
                have hhalf := hid (fun e : o1 = o2 => halves HI5.out HF.out.1 hx1 (by rw [e]; exact hx2))
                have hk1 : ((k' + 1 : Nat) : Int) - 1 = (k' : Int) := by omega
                have hkk : ((k' + 1 : Nat) : Int) < (F.length : Int) := by omega
                have hkk2 : (k' : Int) < (F.length : Int) := by omega
                obtain ⟨q, hq⟩ : ∃ q, q = 2 ^ o2 := ⟨_, rfl⟩
                have hsk := shl_eq o2 q hq
                have hq1 : 0 < q := by rw [hq]; exact Nat.two_pow_pos _
                have hq2 : q ≤ 128 := by rw [hq]; exact Nat.pow_le_pow_right (n := 2) (by omega) ho2.1
                obtain ⟨sz, hsz⟩ : ∃ sz, sz = 1024 * q := ⟨_, rfl⟩
                have hsz' : (1024 : Int) * (q : Int) = (sz : Int) := by omega
                have hsz0 : ((sz : Int) == 0) = false := by rw [beq_eq_false_iff_ne]; omega
                have hsz1 : (0 : Int) < (sz : Int) := by omega
                obtain ⟨a1, ha1⟩ : ∃ a1, a1 = p1 * 1024 := ⟨_, rfl⟩
                obtain ⟨a2, ha2⟩ : ∃ a2, a2 = p2 * 1024 := ⟨_, rfl⟩
                have hp1 : p1 ≤ 128 := by have := Nat.two_pow_pos o1; have := ho1.2; omega
                have hp2 : p2 ≤ 128 := by have := Nat.two_pow_pos o2; have := ho2.2; omega
                rw [← ha1] at c0
                rw [← ha2] at d0
                have hb1 : a1 ≤ 131072 := by omega
                have hb2 : a2 ≤ 131072 := by omega
                have ho64 : o2 < 64 := by omega
                obtain ⟨y1, hy1⟩ : ∃ y1, y1 = a1 / sz := ⟨_, rfl⟩
                obtain ⟨y2, hy2⟩ : ∃ y2, y2 = a2 / sz := ⟨_, rfl⟩
                have hd1 : (a1 : Int) / (sz : Int) = (y1 : Int) := by rw [hy1]; exact (Int.natCast_ediv _ _).symm
                have hd2 : (a2 : Int) / (sz : Int) = (y2 : Int) := by rw [hy2]; exact (Int.natCast_ediv _ _).symm
                have hd1' : (a1 : Int).tdiv (sz : Int) = (y1 : Int) := by rw [Int.tdiv_eq_ediv_of_nonneg (by omega)]; exact hd1
                have hd2' : (a2 : Int).tdiv (sz : Int) = (y2 : Int) := by rw [Int.tdiv_eq_ediv_of_nonneg (by omega)]; exact hd2
                have hy1b : y1 ≤ 131072 := Nat.le_trans (by rw [hy1]; exact Nat.div_le_self _ _) hb1
                have hy2b : y2 ≤ 131072 := Nat.le_trans (by rw [hy2]; exact Nat.div_le_self _ _) hb2
                have hneq : Hid (o1 = o2 → y1 / 2 ≠ y2 / 2) := fun e => by
                  have := hhalf.out e
                  rw [hy1, hy2, ha1, ha2, hsz, hq, ← e]; exact this
                clear hx1 hx2 eg hhalf hq hsz ha1 ha2 hy1 hy2 ho1 hp1 hp2
                by_cases he : o1 = o2
                · subst he
                  have hne : (((y1 : Int) / 2) == ((y2 : Int) / 2)) = false := by have := hneq.out rfl; rw [beq_eq_false_iff_ne]; omega
                  clear hneq
                  go_wp2_with fail
                  go_quiet (fail)
                  go_wp2_with fail
                  exact ⟨⟨k' + 1 + 1, by omega, by go_num, ⟨HGq.out.1, HGq.out.2.1, HGq.out.2.2.drewN _⟩, Below.drewN hXq _, Below.drewN hbq _⟩, by simp [intOf]; omega⟩
                · have hne : ((o1 : Int) == (o2 : Int)) = false := by rw [beq_eq_false_iff_ne]; omega
                  clear hneq
                  go_wp2_with fail
                  go_quiet (fail)
                  go_wp2_with fail
                  exact ⟨⟨k' + 1 + 1, by omega, by go_num, ⟨HGq.out.1, HGq.out.2.1, HGq.out.2.2.drewN _⟩, Below.drewN hXq _, Below.drewN hbq _⟩, by simp [intOf]; omega⟩
              · go_wp2_with fail
                exact ⟨⟨j + 1, by omega, by go_num, ⟨_, HGq⟩, hXq⟩, by simp [intOf]; omega⟩
          · have hn1 : ¬ ((0 : Int) ≤ n) := hn0
            clear hcond
            go_wp2_with fail
            refine (got_free w3 p m 7 bf gf B (j + 1) HG4.out (HT.out.below hX3 hpos)).mono ?_
            rintro e w5 ⟨aF, cF, F, rfl, hF, hFl, hRF, hb5⟩
            have hX5 := Below.of_below hX3 hX3.size hb5
            have HG5 := hid (HG4.out.below hb5)
            have HF := hid (And.intro hF hRF)
            have HI5 := hid HG5.out.1
            clear hF hRF hb5 HG4 hX3
            go_wp2_with fail
            go_loopw [9] (fun t wq => ∃ k : Nat, 1 ≤ k ∧ t = .int .i64 (k : Int) ∧ Hid (Good wq p m 7 bf gf B (j + 1)) ∧ Below w.heap.size w wq ∧ Below w5.heap.size w5 wq) (fun t _ => F.length - (intOf t).toNat)
            case atStart => exact ⟨1, by omega, rfl, HG5, hX5, Below.refl _ _⟩
            case round =>
              obtain ⟨k, hk, rfl, HGq, hXq, hbq⟩ := hrel
              clear hX5 HG5
              by_cases hkl : k < F.length
              · obtain ⟨k', rfl⟩ : ∃ k', k = k' + 1 := ⟨k - 1, by omega⟩
                obtain ⟨⟨p1, o1⟩, hx1⟩ : ∃ x, F[k']? = some x := ⟨_, List.getElem?_eq_getElem (by omega)⟩
                obtain ⟨⟨p2, o2⟩, hx2⟩ : ∃ x, F[k' + 1]? = some x := ⟨_, List.getElem?_eq_getElem hkl⟩
                obtain ⟨g, rfl, c0, c1⟩ := (HF.out.2.below hbq).at hx1
                obtain ⟨g2, eg, d0, d1⟩ := (HF.out.2.below hbq).at hx2
                obtain rfl : g = g2 := by simpa using eg
                have ho1 := (HF.out.1.lt HI5.out (by simp) (List.mem_of_getElem? hx1))
                have ho2 := (HF.out.1.lt HI5.out (by simp) (List.mem_of_getElem? hx2))
                have hhalf := hid (fun e : o1 = o2 => halves HI5.out HF.out.1 hx1 (by rw [e]; exact hx2))
                have hk1 : ((k' + 1 : Nat) : Int) - 1 = (k' : Int) := by omega
                have hkk : ((k' + 1 : Nat) : Int) < (F.length : Int) := by omega
                have hkk2 : (k' : Int) < (F.length : Int) := by omega
                obtain ⟨q, hq⟩ : ∃ q, q = 2 ^ o2 := ⟨_, rfl⟩
                have hsk := shl_eq o2 q hq
                have hq1 : 0 < q := by rw [hq]; exact Nat.two_pow_pos _
                have hq2 : q ≤ 128 := by rw [hq]; exact Nat.pow_le_pow_right (n := 2) (by omega) ho2.1
                obtain ⟨sz, hsz⟩ : ∃ sz, sz = 1024 * q := ⟨_, rfl⟩
                have hsz' : (1024 : Int) * (q : Int) = (sz : Int) := by omega
                have hsz0 : ((sz : Int) == 0) = false := by rw [beq_eq_false_iff_ne]; omega
                have hsz1 : (0 : Int) < (sz : Int) := by omega
                obtain ⟨a1, ha1⟩ : ∃ a1, a1 = p1 * 1024 := ⟨_, rfl⟩
                obtain ⟨a2, ha2⟩ : ∃ a2, a2 = p2 * 1024 := ⟨_, rfl⟩
                have hp1 : p1 ≤ 128 := by have := Nat.two_pow_pos o1; have := ho1.2; omega
                have hp2 : p2 ≤ 128 := by have := Nat.two_pow_pos o2; have := ho2.2; omega
                rw [← ha1] at c0
                rw [← ha2] at d0
                have hb1 : a1 ≤ 131072 := by omega
                have hb2 : a2 ≤ 131072 := by omega
                have ho64 : o2 < 64 := by omega
                obtain ⟨y1, hy1⟩ : ∃ y1, y1 = a1 / sz := ⟨_, rfl⟩
                obtain ⟨y2, hy2⟩ : ∃ y2, y2 = a2 / sz := ⟨_, rfl⟩
                have hd1 : (a1 : Int) / (sz : Int) = (y1 : Int) := by rw [hy1]; exact (Int.natCast_ediv _ _).symm
                have hd2 : (a2 : Int) / (sz : Int) = (y2 : Int) := by rw [hy2]; exact (Int.natCast_ediv _ _).symm
                have hd1' : (a1 : Int).tdiv (sz : Int) = (y1 : Int) := by rw [Int.tdiv_eq_ediv_of_nonneg (by omega)]; exact hd1
                have hd2' : (a2 : Int).tdiv (sz : Int) = (y2 : Int) := by rw [Int.tdiv_eq_ediv_of_nonneg (by omega)]; exact hd2
                have hy1b : y1 ≤ 131072 := Nat.le_trans (by rw [hy1]; exact Nat.div_le_self _ _) hb1
                have hy2b : y2 ≤ 131072 := Nat.le_trans (by rw [hy2]; exact Nat.div_le_self _ _) hb2
                have hneq : Hid (o1 = o2 → y1 / 2 ≠ y2 / 2) := fun e => by
                  have := hhalf.out e
                  rw [hy1, hy2, ha1, ha2, hsz, hq, ← e]; exact this
                clear hx1 hx2 eg hhalf hq hsz ha1 ha2 hy1 hy2 ho1 hp1 hp2
                by_cases he : o1 = o2
                · subst he
                  have hne : (((y1 : Int) / 2) == ((y2 : Int) / 2)) = false := by have := hneq.out rfl; rw [beq_eq_false_iff_ne]; omega
                  clear hneq
                  go_wp2_with fail
                  go_quiet (fail)
                  go_wp2_with fail
                  exact ⟨⟨k' + 1 + 1, by omega, by go_num, ⟨HGq.out.1, HGq.out.2.1, HGq.out.2.2.drewN _⟩, Below.drewN hXq _, Below.drewN hbq _⟩, by simp [intOf]; omega⟩
                · have hne : ((o1 : Int) == (o2 : Int)) = false := by rw [beq_eq_false_iff_ne]; omega
                  clear hneq
                  go_wp2_with fail
                  go_quiet (fail)
                  go_wp2_with fail
                  exact ⟨⟨k' + 1 + 1, by omega, by go_num, ⟨HGq.out.1, HGq.out.2.1, HGq.out.2.2.drewN _⟩, Below.drewN hXq _, Below.drewN hbq _⟩, by simp [intOf]; omega⟩
              · go_wp2_with fail
                exact ⟨⟨j + 1, by omega, by go_num, ⟨_, HGq⟩, hXq⟩, by simp [intOf]; omega⟩
    · go_wp2_with fail
      refine (alive_true wr (HT.out.below hX hpos)).mono ?_
      rintro e w3 ⟨rfl, hb3⟩
      have hX3 := Below.of_below hX hX.size hb3
      go_wp2_with fail
      go_ret
      exact ⟨rfl, hX3⟩

theorem walk (a0 : Option Addr) (len0 cap0 : Nat) (w : World) (hT : Tab w) (w0 : Acts w a0 len0) :
    Calls Tryd.prog 5 #[.slice a0 len0 cap0] w fun e w' => e = .returned (.bool true) ∧ Below w.heap.size w w' := by
  by_cases hl : (100 : Int) < len0
  · exact core_long a0 len0 cap0 w hT hl
  exact core a0 len0 cap0 w hT w0 (by omega)

/-- WHAT THE WALK GIVES, FOR EVERY ARGUMENT AND EVERY WORLD THAT HOLDS THE TABLES. -/
theorem contract (H : Type) (enc : TypeId × Value → H) (W : World) (base : Nat) (args : Array Value) (ds gs : List (DataW H)) (before : List MemPlace)
    (hval : ∀ (j : Nat) t v, Tryd.f5.params[j]? = some t → args[j]? = some v → Value.okWide Tryd.prog W .any base t v)
    (hW : DataW.Whole enc Tryd.prog Tryd.f5.params.toList Rows.buddyApartSpec.vars false W args.toList ds gs before) (hL : laidMetH Tryd.prog Rows.buddyApartRow.laid W) :
    Calls Tryd.prog 5 args W fun e W' => ∃ v, e = .returned v ∧ Rows.buddyApartSpec.post enc Tryd.prog Tryd.f5 false true false false W args v W' := by
  have hW' := hW
  obtain ⟨p, q, hA0, hV, rfl, hfz, hnd⟩ := hW
  have hA : DataW.TrodAll enc Tryd.prog W 0 (fun _ => true) true Tryd.f5.params.toList args.toList ds p := hA0
  rw [Tryd.params5] at hA hval
  obtain ⟨v0, vs0, d0, ds0, p0, q0, hargs, rfl, rfl, h0, r0⟩ := trodAll_cons hA
  obtain ⟨rfl, rfl, rfl⟩ := trodAll_nil r0
  obtain rfl : args = #[v0] := by cases args; simp_all
  obtain ⟨rfl, rfl⟩ := trodVars_none hV
  have k0 := h0
  have lt0 : ∀ x ∈ p0, x.block < W.heap.size := by obtain ⟨m, hm⟩ := k0; exact DataW.trod_lt m _ _ _ hm
  obtain ⟨a0, len0, cap0, rfl⟩ := okWide_slice Tryd.underlying22 (hval 0 22 v0 rfl rfl)
  have w0 : Acts W a0 len0 := by
    obtain ⟨fuel, hf⟩ := h0
    exact acts_of (cap := cap0) (by simpa [Value.cells] using hf)
  clear hA0
  refine (walk a0 len0 cap0 W (tab_of hL) w0).mono fun e W' ⟨he, bel⟩ => ?_
  subst he
  exact ⟨_, rfl, _, _, _, [], _, [], hW', trodAll_mk1 (shut_bool Tryd.underlying4 _), (trodAll_mk1 (Below.trod laidOut (by kernel_rfl) (of_decide_eq_true (by kernel_rfl)) k0 bel lt0)), rfl, bel.frame _, fun h => by cases h⟩

theorem laid_met (os : Os) : laidMet Tryd.prog Rows.buddyApartRow.laid (({ World.holding Tryd.prog os ⟨#[], #[], []⟩ with heap := ((World.holding Tryd.prog os ⟨#[], #[], []⟩).heap.modify 0 (lays tabInts32)).modify 1 (lays tabInts) } : World).forCall (fun _ _ => 0) ⟨#[], #[.slice none 0 0], []⟩).memory :=
  laidMet_of_run' 8 (by kernel_rfl) (by kernel_rfl)
theorem reads (os : Os) {H : Type} (enc : TypeId × Value → H) : ∃ places, DataW.whole enc Tryd.prog (({ World.holding Tryd.prog os ⟨#[], #[], []⟩ with heap := ((World.holding Tryd.prog os ⟨#[], #[], []⟩).heap.modify 0 (lays tabInts32)).modify 1 (lays tabInts) } : World).forCall (fun _ _ => 0) ⟨#[], #[.slice none 0 0], []⟩).memory Tryd.f5.params.toList Rows.buddyApartSpec.vars false #[Value.slice none 0 0].toList 8 = some ([.nil], [], places) :=
  ⟨[], by kernel_rfl⟩

set_option maxRecDepth 100000 in
theorem lifted (os : Os) (started : os.Started) (H : Type) (enc : TypeId × Value → H) (F : Stop.Interp) :
    ReturnsInHanded {} Tryd.checked os 5 .any ((OpenSpec.ofChange Rows.buddyApartSpec).preRow enc Tryd.prog Tryd.f5 Rows.buddyApartRow.domain false Rows.buddyApartRow.laid) (((OpenSpec.ofChange Rows.buddyApartSpec).at F).post enc Tryd.prog Tryd.f5 false true false false) := by
  obtain ⟨places, hx⟩ := reads os enc
  refine returnsInHanded_of_row (C := Tryd.checked) (s := OpenSpec.ofChange Rows.buddyApartSpec) own started (by kernel_rfl) Tryd.func5
    (witness_row_at (enc := enc) (C := Tryd.checked) false ({ World.holding Tryd.prog os ⟨#[], #[], []⟩ with heap := ((World.holding Tryd.prog os ⟨#[], #[], []⟩).heap.modify 0 (lays tabInts32)).modify 1 (lays tabInts) } : World) #[.slice none 0 0] rfl (by kernel_rfl) (by kernel_rfl) (by kernel_rfl)
      (OpenSpec.preRow_of_cond 8 hx (by kernel_rfl) (fun k hk => by cases hk) (by kernel_rfl) (laid_met os))) ?_
  intro W base args ds gs before hval hW _ _ _ hL _ _
  exact contract H enc W base args ds gs before hval hW hL

theorem said : Rows.BuddyApartSaid :=
  OpenClaim.holds_of_cond 5 Tryd.f5 rfl rfl rfl rfl rfl rfl rfl ⟨rfl, rfl, rfl, rfl, rfl⟩ rfl rfl rfl rfl rfl (by kernel_rfl) Tryd.func5 (by kernel_rfl)
    (of_decide_eq_true (by kernel_rfl)) (by unfold Func.isWrapper; first | (rw [if_pos (by decide +kernel)]; kernel_rfl) | (rw [if_neg (by decide +kernel)]; exact ⟨rfl, rfl⟩))
    (fun os started H enc _ F => by rw [OpenClaim.pre_eq_preRow]; exact lifted os started H enc F)

/-- No parameter wants a stand-in; the program's own looks are off. -/
theorem plain (f : FuncId) (fn : Func) (hf : Tryd.pinned.checked.prog.funcNamed "quartermaster/quartermasterlaw03.BuddyApart" = some f) (hfn : Tryd.pinned.checked.prog.funcs[f]? = some fn) :
    false = Tryd.pinned.checked.prog.looks [] ∧ ∀ (j : Nat) t, fn.params[j]? = some t → Tryd.pinned.checked.prog.wantsStandIn t = false := by
  obtain rfl : f = 5 := Option.some.inj ((show Tryd.prog.funcNamed "quartermaster/quartermasterlaw03.BuddyApart" = some 5 by kernel_rfl).symm.trans hf) |>.symm
  obtain rfl : fn = Tryd.f5 := (Option.some.inj (Tryd.func5.symm.trans hfn)).symm
  refine ⟨by kernel_rfl, fun j t ht => ?_⟩
  rw [Tryd.params5] at ht
  obtain rfl : t = 22 := by simpa using Array.mem_of_getElem? ht
  exact (show Tryd.prog.wantsStandIn 22 = false by kernel_rfl)

theorem card : Rows.BuddyApartCardSaid :=
  Claim7.holds_tied_plain_at .later [] _ _ _ _ said (fun _ h => by cases h) (by kernel_rfl) (fun _ h => by cases h) buddyApart_row_tie rfl ⟨rfl, rfl⟩ (by kernel_rfl) rfl plain (by kernel_rfl)
end Go.Proofs.YtcacgickbmfjnaaDoor.buddyApart
