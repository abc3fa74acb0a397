/- Contracts of Take, Give and Order. -/
import Derived.Test.YtohaoeilodebmaaDoorH
namespace Go.Proofs.YtohaoeilodebmaaDoor
open Go.RowKit Go.Maps

theorem addr_inj {K : Nat} {B : St} (h : Inv K B) {k i k' i' : Nat} (hb : B k i ≠ .no) (hb' : B k' i' ≠ .no) (he : addr k i = addr k' i') : k = k' ∧ i = i' := by
  unfold addr at he
  exact begins h hb hb' (by omega)

theorem Has.put {K : Nat} {D : DataW Unit} {B B' : St} (h : Has D B) (hD : IsMap D) (hi : Inv K B') {o n : Nat} (hu : ∀ k i, B' k i = .used ↔ (B k i = .used ∨ k = o ∧ i = n)) : Has (D.put (.int .i64 (addr o n)) (.lit (.int .i64 (o : Int)))) B' := by
  have hon : B' o n = .used := (hu o n).2 (.inr ⟨rfl, rfl⟩)
  refine ⟨fun a => ?_, fun k i hk z => ?_⟩
  · by_cases e : a = addr o n
    · subst e
      rw [has_put_same (k := .int .i64 (addr o n)) hD trivial]
      exact ⟨fun _ => ⟨o, n, hon, rfl⟩, fun _ => rfl⟩
    · rw [has_put_other (by simpa using e), h.key]
      constructor
      · rintro ⟨k, i, hb, rfl⟩
        exact ⟨k, i, (hu k i).2 (.inl hb), rfl⟩
      · rintro ⟨k, i, hb, rfl⟩
        rcases (hu k i).1 hb with h1 | ⟨rfl, rfl⟩
        · exact ⟨k, i, h1, rfl⟩
        · exact absurd rfl e
  · by_cases e : addr k i = addr o n
    · obtain ⟨rfl, rfl⟩ := addr_inj hi (by rw [hk]; simp) (by rw [hon]; simp) e
      exact atKey_put_same (k := .int .i64 (addr k i)) hD trivial _ _
    · rw [atKey_put_other (by simpa using e)]
      rcases (hu k i).1 hk with h1 | ⟨rfl, rfl⟩
      · exact h.val k i h1 z
      · exact absurd rfl e
theorem Has.del {K : Nat} {D : DataW Unit} {B B' : St} (h : Has D B) (hi : Inv K B) {o n : Nat} (hb : B o n = .used) (hu : ∀ k i, B' k i = .used ↔ (B k i = .used ∧ ¬ (k = o ∧ i = n))) : Has (D.del (.int .i64 (addr o n))) B' := by
  refine ⟨fun a => ?_, fun k i hk z => ?_⟩
  · by_cases e : a = addr o n
    · subst e
      rw [has_del_same]
      constructor
      · intro h; cases h
      · rintro ⟨k, i, h1, h2⟩
        have h3 := (hu k i).1 h1
        obtain ⟨rfl, rfl⟩ := addr_inj hi (by rw [hb]; simp) (by rw [h3.1]; simp) h2
        exact absurd ⟨rfl, rfl⟩ h3.2
    · rw [has_del_other (by simpa using e), h.key]
      constructor
      · rintro ⟨k, i, h1, rfl⟩
        exact ⟨k, i, (hu k i).2 ⟨h1, by rintro ⟨rfl, rfl⟩; exact e rfl⟩, rfl⟩
      · rintro ⟨k, i, h1, rfl⟩
        exact ⟨k, i, ((hu k i).1 h1).1, rfl⟩
  · have h3 := (hu k i).1 hk
    rw [atKey_del_other (by
      intro e
      obtain ⟨rfl, rfl⟩ := addr_inj hi (by rw [h3.1]; simp) (by rw [hb]; simp) (by simpa using e)
      exact h3.2 ⟨rfl, rfl⟩)]
    exact h.val k i h3.1 z

/-- A block more is used. -/
def Plus (B B' : St) (o n : Nat) : Prop := ∀ k i, B' k i = .used ↔ (B k i = .used ∨ k = o ∧ i = n)
/-- A block less is used. -/
def Less (B B' : St) (o n : Nat) : Prop := ∀ k i, B' k i = .used ↔ (B k i = .used ∧ ¬ (k = o ∧ i = n))

theorem wf_i64 {a : Int} (h0 : -9223372036854775808 ≤ a) (h1 : a < 9223372036854775808) : (Lit.int .i64 a).wf = true := WalkArith.wf_i64 (by omega)

def TakePost (w : World) (p m K : Nat) (bf gf : Nat → Nat) (B : St) (c o : Nat) (e : Ending) (w' : World) : Prop :=
  ∃ at_ er : Int, e = .returned (.tuple #[.int .i64 at_, .int .i64 er]) ∧ Turn (Own m K gf) w w' ∧
    ((er = 4 ∧ at_ = 0 ∧ (∀ k j, o ≤ k → B k j ≠ .free) ∧ Mem w' p m K bf gf B c) ∨
     ∃ k i n B', er = 0 ∧ Least B o k i ∧ at_ = addr k i ∧ addr o n = addr k i ∧ B o n ≠ .used ∧ Plus B B' o n ∧ Inv K B' ∧ NoHeld B' ∧ Mem w' p m K bf gf B' (c + 1))

theorem take_nil (o : Int) (w : World) : Calls Tryd.prog 10 #[.pointer none, .int .i64 o] w fun e w' => e = .returned (.tuple #[.int .i64 0, .int .i64 1]) ∧ w' = w := by
  go_enter Tryd.func10, Tryd.ntmps10
  go_wp2
  go_ret2
  exact ⟨rfl, rfl⟩
theorem take_bad (w : World) (p K : Nat) (o : Int) (h0 : w.cell? ⟨p, 0, none⟩ = some (.int .i64 (K : Int))) (ho : o < 0 ∨ (K : Int) < o) :
    Calls Tryd.prog 10 #[.pointer (some ⟨p, 0, none⟩), .int .i64 o] w fun e w' => e = .returned (.tuple #[.int .i64 0, .int .i64 1]) ∧ w' = w := by
  by_cases h : o < 0
  · go_enter Tryd.func10, Tryd.ntmps10
    go_wp2
    go_ret2
    exact ⟨rfl, rfl⟩
  · have ho : (K : Int) < o := by omega
    go_enter Tryd.func10, Tryd.ntmps10
    go_wp2
    go_ret2
    exact ⟨rfl, rfl⟩

theorem least_used {K : Nat} {B : St} (hi : Inv K B) {o k i n : Nat} (hl : Least B o k i) (hn : n * 2 ^ o = i * 2 ^ k) : B o n ≠ .used := by
  intro hb
  obtain ⟨rfl, rfl⟩ := begins hi (by rw [hb]; simp) (by rw [hl.2.1]; simp) hn
  rw [hl.2.1] at hb
  cases hb

set_option maxHeartbeats 1000000 in
set_option maxRecDepth 100000 in
theorem take_any (w : World) (p m K : Nat) (bf gf : Nat → Nat) (B : St) (c o : Nat) (hM : Mem w p m K bf gf B c) (hi : Inv K B) (hn : NoHeld B) (hT : Tab w) (ho : o ≤ K) (hc : c ≤ 1000000) :
    Calls Tryd.prog 10 #[.pointer (some ⟨p, 0, none⟩), .int .i64 (o : Int)] w (TakePost w p m K bf gf B c o) := by
  have h0 := hM.cK
  have hK := hM.small
  have HM := hid hM
  have HI := hid hi
  have HN := hid hn
  have HT := hid hT
  clear hM hi hT hn
  go_enter Tryd.func10, Tryd.ntmps10
  go_wp2_with fail
  refine (leastFree_any w p m K bf gf B c o HM.out HI.out HT.out ho).mono ?_
  rintro e w1 ⟨k0, i0, rfl, rfl, hl⟩
  rcases hl with ⟨rfl, hnone⟩ | ⟨k, i, rfl, rfl, hl⟩
  · have HX := hid hnone
    clear hnone
    go_wp2_with fail
    go_ret2
    exact ⟨_, _, rfl, Turn.refl _ _, .inl ⟨rfl, rfl, HX.out, HM.out⟩⟩
  · obtain ⟨B1, hi1, hh1, hs1, hf1⟩ := lift_step HI.out HN.out hl.2.1
    obtain ⟨hkK, hiK⟩ := HI.out.inn k i (by rw [hl.2.1]; simp)
    have hok := hl.1
    have hk21 : k < 21 := by omega
    have hcp := HM.out.cptr k hkK
    have HL := hid hl
    have H1 := hid (And.intro hi1 (And.intro hh1 (And.intro hs1 hf1)))
    clear hl hi1 hh1 hs1 hf1
    go_wp2_with fail
    refine (mem_set (HM.out.alloc _) false k i w1.heap.size hkK hiK (heap_alloc_new _ _) (by have := (HM.out.lb k hkK).2; omega)).mono ?_
    rintro e w2 ⟨⟨t, rfl⟩, hb, hmem⟩
    have hm2 := hid (hmem B1 (fun k' j => by
      rw [H1.out.2.2.2 k' j]
      by_cases e : k' = k ∧ j = i
      · simp [e]
      · simp [e]) H1.out.2.2.1)
    have ht2 : Turn (Own m K gf) w1 w2 := ((Turn.refl _ _).alloc _).then hb (.inl (.inr ⟨k, hkK, rfl⟩))
    clear hb hmem
    go_wp2_with fail
    go_loopw [6, 7] (fun t6 t7 wr => ∃ kk ii : Nat, o ≤ kk ∧ kk ≤ k ∧ t6 = .int .i64 (kk : Int) ∧ t7 = .int .i64 (ii : Int) ∧ Hid (ii * 2 ^ kk = i * 2 ^ k) ∧ (∃ B', Hid (Inv K B' ∧ HeldAt B' kk ii ∧ SameUsed B B' ∧ Mem wr p m K bf gf B' c)) ∧ Turn (Own m K gf) w1 wr) (fun t6 _ _ => (intOf t6).toNat)
    case atStart => exact ⟨k, i, hok, Nat.le_refl _, rfl, rfl, rfl, ⟨B1, H1.out.1, H1.out.2.1, H1.out.2.2.1, hm2.out⟩, ht2⟩
    case round =>
      obtain ⟨kk, ii, hokk, hkk, rfl, rfl, hpos, ⟨B', hB'⟩, htr⟩ := hrel
      clear hm2 ht2 H1
      have hheld : B' kk ii = .held := (hB'.out.2.1 _ _).2 ⟨rfl, rfl⟩
      have hin := HI
      have hii := (hB'.out.1.inn kk ii (by rw [hheld]; simp)).2
      have hiib : ii < 1048576 := Nat.lt_of_lt_of_le hii (pow_le20 (by omega))
      clear hheld
      by_cases hgt : o < kk
      · obtain ⟨j, rfl⟩ : ∃ j, kk = j + 1 := ⟨kk - 1, by omega⟩
        obtain ⟨B2, hi2, hh2, hs2, hf2⟩ := split_step hB'.out.1 hB'.out.2.1
        have hheld2 : B2 j (2 * ii) = .held := (hh2 _ _).2 ⟨rfl, rfl⟩
        have hfr2 : B2 j (2 * ii + 1) = .free := (hf2 _ _).2 (.inr ⟨rfl, rfl⟩)
        have hin2 := (hi2.inn j (2 * ii + 1) (by rw [hfr2]; simp)).2
        have hcp2 := hB'.out.2.2.2.cptr j (by omega)
        have e1 : ((j + 1 : Nat) : Int) - 1 = (j : Int) := by omega
        have hj21 : j < 21 := by omega
        have HS2 := hid (And.intro hi2 (And.intro hh2 (And.intro hs2 hf2)))
        clear hi2 hh2 hs2 hf2 hheld2 hfr2
        go_wp2_with fail
        have e2 : (ii : Int) * 2 + 1 = ((2 * ii + 1 : Nat) : Int) := by omega
        rw [e2]
        refine (mem_set (hB'.out.2.2.2.alloc _) true j (2 * ii + 1) wr.heap.size (by omega) hin2 (heap_alloc_new _ _) (by have := (hB'.out.2.2.2.lb j (by omega)).2; omega)).mono ?_
        rintro e w3 ⟨⟨t, rfl⟩, hb, hmem⟩
        have hm3 := hid (hmem B2 (fun k' j' => by
          rw [HS2.out.2.2.2 k' j']
          by_cases e : k' = j ∧ j' = 2 * ii + 1
          · simp [e]
          · simp [e]) HS2.out.2.2.1)
        have ht3 : Turn (Own m K gf) w1 w3 := (htr.alloc _).then hb (.inl (.inr ⟨j, by omega, rfl⟩))
        clear hb hmem
        go_wp2_with fail
        refine ⟨⟨j, 2 * ii, by omega, by omega, by go_num, by go_num, ?_, ⟨B2, HS2.out.1, HS2.out.2.1, hB'.out.2.2.1.trans HS2.out.2.2.1, hm3.out⟩, ht3⟩, by simp [intOf]⟩
        have := hpos.out
        show 2 * ii * 2 ^ j = i * 2 ^ k
        rw [← this, Nat.pow_succ, Nat.mul_comm 2 ii, Nat.mul_assoc, Nat.mul_comm 2]
      · obtain rfl : kk = o := by omega
        obtain ⟨B2, hi2, hh2, hu2, hf2⟩ := use_step hB'.out.1 hB'.out.2.1
        have HS2 := hid (And.intro hi2 (And.intro hh2 (And.intro hu2 hf2)))
        clear hi2 hh2 hu2 hf2
        have hpw := pow_le20 (show kk ≤ 20 by omega)
        have hal : ii * 2 ^ kk ≤ 1048576 * 1 := by
          have := hB'.out.1.inn kk ii (by rw [(hB'.out.2.1 _ _).2 ⟨rfl, rfl⟩]; simp)
          have h2 : ii * 2 ^ kk ≤ 2 ^ (K - kk) * 2 ^ kk := Nat.mul_le_mul_right _ (by omega)
          rw [← Nat.pow_add] at h2
          have := pow_le20 (show K - kk + kk ≤ 20 by omega)
          omega
        have hprod : (ii : Int) * ((1024 * 2 ^ kk : Nat) : Int) = ((ii * 2 ^ kk * 1024 : Nat) : Int) := by
          rw [← Int.natCast_mul]; congr 1; rw [Nat.mul_comm 1024, Nat.mul_assoc]
        obtain ⟨s, hs⟩ : ∃ s : Int, s = ((1024 * 2 ^ kk : Nat) : Int) := ⟨_, rfl⟩
        rw [← hs] at hprod
        have HS := hid hs
        clear hs
        obtain ⟨n, D, hnc, hU, hD⟩ := hB'.out.2.2.2.used
        have hcm := hB'.out.2.2.2.cmap
        have HU := hid hU
        have HD := hid hD
        obtain ⟨z, hz⟩ : ∃ z, z = ii * 2 ^ kk * 1024 := ⟨_, rfl⟩
        rw [← hz] at hprod
        have hzb : z ≤ 1073741824 := by omega
        have HZ := hid hz
        clear hU hD hz hal
        go_wp2_with fail
        refine (bytesOf_any kk _ (by omega)).mono ?_
        rintro e w4 ⟨rfl, rfl⟩
        rw [← HS.out]
        go_wp2_with (first | (at_mapUpdate; refine wpList_mapUpdate_in _ rfl _ _ _ 62 rfl 3 3 law3 Tryd.underlying62 _ m n D rfl HU.out (by unfold maxLen; omega) _ _ _ rfl rfl (keyOf_int_mk Tryd.underlying3 (wf_i64 (by omega) (by omega))) _ [] (plainElem_int Tryd.underlying3 (wf_i64 (by omega) (by omega))) ?_; intro w5 hU5 hturn5; have HU5 := hid hU5; have HT5 := hid hturn5; clear hU5 hturn5) | go_in)
        go_ret2
        have hz := HZ.out
        have hadr : addr kk ii = (z : Int) := by unfold addr; rw [hz]
        have hadr2 : addr k i = (z : Int) := by unfold addr; rw [hz, hpos.out]
        have ht5 : Turn (Own m K gf) w1 w5 := htr.trans (Turn.of_grown HT5.out.grown (fun j hj => by cases hj; exact .inl (.inl rfl)))
        refine ⟨_, _, rfl, ht5, .inr ⟨k, i, ii, B2, rfl, HL.out, hadr2.symm, by rw [hadr, hadr2], least_used HI.out HL.out hpos.out, fun k' i' => ?_, HS2.out.1, HS2.out.2.1, ?_⟩⟩
        · rw [HS2.out.2.2.1 k' i', ← hB'.out.2.2.1 k' i']
        · have hmm := hB'.out.2.2.2
          have hg := HT5.out.grown
          have hoth : ∀ x, x < w4.heap.size → x ≠ m → w5.heap[x]? = w4.heap[x]? := fun x hx hne => hg.block x hx (by simpa using hne)
          refine ⟨by rw [hoth p hmm.lp hmm.pm]; exact hmm.head, fun k' hk' => ?_, ⟨n + 1, _, by omega, HU5.out, ?_⟩, hmm.small, hmm.pm, hmm.bg, hmm.gg, hmm.gp, hmm.gm, hmm.bm⟩
          · obtain ⟨ws, hBt, hw⟩ := hmm.maps k' hk'
            refine ⟨ws, ⟨by rw [hoth _ hBt.lt.1 (hmm.bm k' hk')]; exact hBt.head, by rw [hoth _ hBt.lt.2 (hmm.gm k' hk')]; exact hBt.body, hBt.unlike, hBt.small, hBt.ok⟩, fun j hj => ?_⟩
            rw [HS2.out.2.2.2 k' j]; exact hw j hj
          · rw [← hadr]
            exact HD.out.put HU.out.isMap HS2.out.1 HS2.out.2.2.1

/-- Order of what begins there, or -1. -/
def OrderB (B : St) (a r : Int) : Prop := (r = -1 ∧ ∀ k i, B k i = .used → a ≠ addr k i) ∨ ∃ k i : Nat, r = (k : Int) ∧ B k i = .used ∧ a = addr k i
def OrderPost (B : St) (a : Int) (w : World) (e : Ending) (w' : World) : Prop := ∃ r, e = .returned (.int .i64 r) ∧ OrderB B a r ∧ w' = w

theorem order_any (w : World) (p m K : Nat) (bf gf : Nat → Nat) (B : St) (c : Nat) (a : Int) (hM : Mem w p m K bf gf B c) (ha : (Lit.int .i64 a).wf = true) :
    Calls Tryd.prog 12 #[.pointer (some ⟨p, 0, none⟩), .int .i64 a] w (OrderPost B a w) := by
  obtain ⟨n, D, hnc, hU, hD⟩ := hM.used
  have hcm := hM.cmap
  have HU := hid hU
  have HD := hid hD
  clear hU hD hM
  go_enter Tryd.func12, Tryd.ntmps12
  go_wp2_with (first | (at_lookup; refine wpList_lookup_own_ok_int _ rfl _ _ 62 rfl 3 3 .i64 law3 Tryd.underlying62 Tryd.underlying3 (zero3 _) m n D rfl HU.out _ _ rfl (keyOf_int_mk Tryd.underlying3 ha) ?_; intro v hat hwv; have HAT := hid hat; clear hat; cases hh : Maps.has D (.int .i64 a)) | go_in)
  · go_ret
    refine ⟨_, rfl, .inl ⟨rfl, fun k i hb e => ?_⟩, rfl⟩
    have := (HD.out.key a).2 ⟨k, i, hb, e⟩
    rw [hh] at this
    cases this
  · go_ret
    obtain ⟨k, i, hb, rfl⟩ := (HD.out.key a).1 hh
    have h1 := HD.out.val k i hb (.lit (.int .i64 0))
    rw [HAT.out] at h1
    refine ⟨_, rfl, .inr ⟨k, i, ?_, hb, rfl⟩, rfl⟩
    simpa using h1

theorem order_nil (a : Int) (w : World) : Calls Tryd.prog 12 #[.pointer none, .int .i64 a] w fun e w' => e = .returned (.int .i64 (-1)) ∧ w' = w := by
  go_enter Tryd.func12, Tryd.ntmps12
  go_wp2
  go_ret
  exact ⟨rfl, rfl⟩
theorem give_nil (a : Int) (w : World) : Calls Tryd.prog 11 #[.pointer none, .int .i64 a] w fun e w' => e = .returned (.int .i64 1) ∧ w' = w := by
  go_enter Tryd.func11, Tryd.ntmps11
  go_wp2
  go_ret
  exact ⟨rfl, rfl⟩

def GivePost (w : World) (p m K : Nat) (bf gf : Nat → Nat) (B : St) (c : Nat) (a : Int) (e : Ending) (w' : World) : Prop :=
  ∃ er : Int, e = .returned (.int .i64 er) ∧ Turn (Own m K gf) w w' ∧
    ((er = 6 ∧ (∀ k i, B k i = .used → a ≠ addr k i) ∧ Mem w' p m K bf gf B c) ∨
     ∃ k i B', er = 0 ∧ B k i = .used ∧ a = addr k i ∧ Less B B' k i ∧ Inv K B' ∧ NoHeld B' ∧ Mem w' p m K bf gf B' c)

theorem xor_bud (i : Nat) : i ^^^ 1 = bud i := by
  have h1 : (i ^^^ 1) / 2 = i / 2 := by rw [Nat.xor_div_two]; simp
  have h3 := Nat.testBit_xor i 1 0
  simp only [Nat.testBit_zero] at h3
  generalize i ^^^ 1 = y at *
  unfold bud
  rcases Nat.mod_two_eq_zero_or_one i with h4 | h4
  · rw [if_pos h4]
    have h5 : y % 2 = 1 := by simpa [h4] using h3
    omega
  · rw [if_neg (by omega)]
    have h5 : ¬ y % 2 = 1 := by simpa [h4] using h3
    omega
theorem xor_one (i : Nat) (h : i < 1048576) : bits .xor .i64 (i : Int) 1 = ((bud i : Nat) : Int) := by
  have hx : i ^^^ 1 < 2 ^ 21 := Nat.xor_lt_two_pow (by omega) (by omega)
  show IntKind.i64.wrap ((BitVec.ofInt 64 (i : Int) ^^^ BitVec.ofInt 64 ((1 : Nat) : Int)).toNat : Int) = _
  rw [BitVec.toNat_xor, ofInt_u64 i (by omega), ofInt_u64 1 (by omega), wrap_i _ (by omega) (by omega), xor_bud]

theorem mem_get {w : World} {p m K : Nat} {bf gf : Nat → Nat} {B : St} {c : Nat} (h : Mem w p m K bf gf B c) (hi : Inv K B) (k i : Nat) (hk : k ≤ K) :
    Calls Tryd.prog 39 #[.pointer (some ⟨bf k, 0, none⟩), .int .i64 (i : Int)] w fun e w' => e = .returned (.bool (decide (B k i = .free))) ∧ ∃ q, w' = w.drewN q := by
  obtain ⟨ws, hB, hw⟩ := h.maps k hk
  have e : getB (2 ^ (K - k)) ws (i : Int) = decide (B k i = .free) := by
    unfold getB hasB
    by_cases hlt : i < 2 ^ (K - k)
    · rw [decide_eq_true (⟨by omega, by omega⟩), Bool.true_and, Int.toNat_natCast]
      have := hw i hlt
      cases hb : bit ws i
      · rw [hb] at this
        rw [decide_eq_false]
        intro h2; have := this.2 h2; cases this
      · rw [decide_eq_true (this.1 hb)]
    · rw [decide_eq_false (by omega), Bool.false_and, decide_eq_false]
      intro hb
      exact hlt (hi.inn k i (by rw [hb]; simp)).2
  rw [← e]
  exact get_any _ _ _ _ _ _ hB

theorem addr_div (k i : Nat) : addr k i / ((1024 * 2 ^ k : Nat) : Int) = (i : Int) := by
  unfold addr
  rw [← Int.natCast_ediv]
  congr 1
  rw [Nat.mul_assoc, Nat.mul_comm (2 ^ k) 1024]
  exact Nat.mul_div_cancel _ (by have := Nat.two_pow_pos k; omega)

theorem give_none (w : World) (p m K : Nat) (bf gf : Nat → Nat) (B : St) (c : Nat) (a : Int) (hM : Mem w p m K bf gf B c) (ha : (Lit.int .i64 a).wf = true) (hno : ∀ k i, B k i = .used → a ≠ addr k i) :
    Calls Tryd.prog 11 #[.pointer (some ⟨p, 0, none⟩), .int .i64 a] w (GivePost w p m K bf gf B c a) := by
  obtain ⟨n, D, hnc, hU, hD⟩ := hM.used
  have hcm := hM.cmap
  have hh : Maps.has D (.int .i64 a) = false := by
    cases hh : Maps.has D (.int .i64 a)
    · rfl
    · obtain ⟨k, i, hb, e⟩ := (hD.key a).1 hh
      exact absurd e (hno k i hb)
  have HM := hid hM
  have HU := hid hU
  have HN := hid hno
  clear hU hD hM hno
  go_enter Tryd.func11, Tryd.ntmps11
  go_wp2_with (first | (at_lookup; refine wpList_lookup_own_ok_int _ rfl _ _ 62 rfl 3 3 .i64 law3 Tryd.underlying62 Tryd.underlying3 (zero3 _) m n D rfl HU.out _ _ rfl (keyOf_int_mk Tryd.underlying3 ha) ?_; intro v hat hwv; clear hat) | go_in)
  go_ret
  exact ⟨_, rfl, Turn.refl _ _, .inl ⟨rfl, HN.out, HM.out⟩⟩

set_option maxHeartbeats 1000000 in
set_option maxRecDepth 100000 in
theorem give_some (w : World) (p m K : Nat) (bf gf : Nat → Nat) (B : St) (c k i : Nat) (hM : Mem w p m K bf gf B c) (hi : Inv K B) (hn : NoHeld B) (hb : B k i = .used) :
    Calls Tryd.prog 11 #[.pointer (some ⟨p, 0, none⟩), .int .i64 (addr k i)] w (GivePost w p m K bf gf B c (addr k i)) := by
  obtain ⟨n, D, hnc, hU, hD⟩ := hM.used
  have hcm := hM.cmap
  have hK := hM.small
  obtain ⟨hkK, hiK⟩ := hi.inn k i (by rw [hb]; simp)
  have hal : i * 2 ^ k ≤ 1048576 := by
    have h2 : i * 2 ^ k ≤ 2 ^ (K - k) * 2 ^ k := Nat.mul_le_mul_right _ (by omega)
    rw [← Nat.pow_add] at h2
    have := pow_le20 (show K - k + k ≤ 20 by omega)
    omega
  have ha : (Lit.int .i64 (addr k i)).wf = true := wf_i64 (by unfold addr; omega) (by unfold addr; omega)
  have hh : Maps.has D (.int .i64 (addr k i)) = true := (hD.key _).2 ⟨k, i, hb, rfl⟩
  have hv : ∀ z, D.atKey (.int .i64 (addr k i)) z = .lit (.int .i64 (k : Int)) := hD.val k i hb
  obtain ⟨B1, hi1, hh1, hu1, hf1⟩ := pick_step hi hn hb
  have hdel := hD.del hi hb hu1
  have hdv := addr_div k i
  have hsb : (0 : Int) < ((1024 * 2 ^ k : Nat) : Int) := by have := Nat.two_pow_pos k; omega
  have hsb2 : ((1024 * 2 ^ k : Nat) : Int) ≤ 1073741824 := by have := pow_le20 (show k ≤ 20 by omega); omega
  have hab : 0 ≤ addr k i ∧ addr k i ≤ 1073741824 := by unfold addr; omega
  have hib : i < 1048576 := Nat.lt_of_lt_of_le hiK (pow_le20 (by omega))
  have HM := hid hM
  have HU := hid hU
  have HV := hid hv
  have HD := hid hdel
  have HB := hid hb
  have H1 := hid (And.intro hi1 (And.intro hh1 (And.intro hu1 hf1)))
  obtain ⟨a, haa⟩ : ∃ a, a = addr k i := ⟨_, rfl⟩
  obtain ⟨s, hs⟩ : ∃ s : Int, s = ((1024 * 2 ^ k : Nat) : Int) := ⟨_, rfl⟩
  rw [← haa] at ha hh hab hdv
  rw [← hs] at hdv hsb hsb2
  have HA := hid haa
  have HS := hid hs
  rw [← haa]
  obtain ⟨ha0, ha1⟩ := hab
  have hs0 : (s == 0) = false := by simp; omega
  have hdv' : a.tdiv s = (i : Int) := by rw [Int.tdiv_eq_ediv_of_nonneg ha0]; exact hdv
  clear hU hD hM hi hn hb hv hdel hi1 hh1 hu1 hf1 haa hs hal
  go_enter Tryd.func11, Tryd.ntmps11
  go_wp2_with (first
    | (at_lookup; refine wpList_lookup_own_ok_int _ rfl _ _ 62 rfl 3 3 .i64 law3 Tryd.underlying62 Tryd.underlying3 (zero3 _) m n D rfl HU.out _ _ rfl (keyOf_int_mk Tryd.underlying3 ha) ?_; intro v hat hwv; rw [HA.out, HV.out] at hat; obtain rfl : (k : Int) = v := (by simpa using hat); clear hat hwv)
    | (at_delete; refine wpList_delete_own _ rfl _ _ 62 3 rfl 3 law3 Tryd.underlying62 _ m n D rfl HU.out _ _ rfl (keyOf_int_mk Tryd.underlying3 ha) ?_; intro w1 hU1 hturn1; have HU1 := hid hU1; have HT1 := hid hturn1; clear hU1 hturn1))
  refine (bytesOf_any k _ (by omega)).mono ?_
  rintro e w2 ⟨rfl, rfl⟩
  rw [← HS.out]
  have hm1 : Hid (Mem w2 p m K bf gf B1 c) := by
    have hmm := HM.out
    have hg := HT1.out.grown
    have hoth : ∀ x, x < w.heap.size → x ≠ m → w2.heap[x]? = w.heap[x]? := fun x hx hne => hg.block x hx (by simpa using hne)
    refine ⟨by rw [hoth p hmm.lp hmm.pm]; exact hmm.head, fun k' hk' => ?_, ⟨n, _, hnc, HU1.out, by rw [HA.out]; exact HD.out⟩, hmm.small, hmm.pm, hmm.bg, hmm.gg, hmm.gp, hmm.gm, hmm.bm⟩
    obtain ⟨ws, hBt, hw⟩ := hmm.maps k' hk'
    refine ⟨ws, ⟨by rw [hoth _ hBt.lt.1 (hmm.bm k' hk')]; exact hBt.head, by rw [hoth _ hBt.lt.2 (hmm.gm k' hk')]; exact hBt.body, hBt.unlike, hBt.small, hBt.ok⟩, fun j hj => ?_⟩
    rw [H1.out.2.2.2 k' j]; exact hw j hj
  have ht1 : Turn (Own m K gf) w w2 := Turn.of_grown HT1.out.grown (fun j hj => by cases hj; exact .inl (.inl rfl))
  clear HU HD HT1 HU1 HV hcm
  go_wp2_with fail
  go_loopw [5, 7] (fun t5 t7 wr => ∃ kk ii : Nat, kk ≤ K ∧ t5 = .int .i64 (kk : Int) ∧ t7 = .int .i64 (ii : Int) ∧ (∃ B', Hid (Inv K B' ∧ HeldAt B' kk ii ∧ SameUsed B1 B' ∧ Mem wr p m K bf gf B' c)) ∧ Turn (Own m K gf) w wr) (fun t5 _ _ => K - (intOf t5).toNat)
  case atStart => exact ⟨k, i, hkK, rfl, rfl, ⟨B1, H1.out.1, H1.out.2.1, SameUsed.refl _, hm1.out⟩, ht1⟩
  case round =>
    obtain ⟨kk, ii, hkk, rfl, rfl, ⟨B', hB'⟩, htr⟩ := hrel
    clear hm1 ht1
    have hheld : B' kk ii = .held := (hB'.out.2.1 _ _).2 ⟨rfl, rfl⟩
    have hii := (hB'.out.1.inn kk ii (by rw [hheld]; simp)).2
    have hiib : ii < 1048576 := Nat.lt_of_lt_of_le hii (pow_le20 (by omega))
    have hcp := hB'.out.2.2.2.cptr kk hkk
    have hk21 : kk < 21 := by omega
    have hx1 := xor_one ii hiib
    clear hheld
    go_wp2_with fail
    refine (mem_get hB'.out.2.2.2 hB'.out.1 kk (bud ii) hkk).mono ?_
    rintro e w3 ⟨rfl, q, rfl⟩
    by_cases hfree : B' kk (bud ii) = .free
    · rw [decide_eq_true hfree]
      obtain ⟨B2, hi2, hh2, hs2, hf2⟩ := join_step hB'.out.1 hB'.out.2.1 hfree
      have hbb := (hB'.out.1.inn kk (bud ii) (by rw [hfree]; simp)).2
      have hk1 : kk + 1 ≤ K := (hi2.inn (kk + 1) (ii / 2) (by rw [(hh2 _ _).2 ⟨rfl, rfl⟩]; simp)).1
      have HS2 := hid (And.intro hi2 (And.intro hh2 (And.intro hs2 hf2)))
      have hcp3 : (wr.drewN q).cell? ⟨p, 1 + kk, none⟩ = some (.pointer (some ⟨bf kk, 0, none⟩)) := (hB'.out.2.2.2.drewN q).cptr kk hkk
      clear hi2 hh2 hs2 hf2 hfree
      go_wp2_with fail
      refine (mem_set ((hB'.out.2.2.2.drewN q).alloc _) false kk (bud ii) (wr.drewN q).heap.size hkk hbb (heap_alloc_new _ _) (by have := ((hB'.out.2.2.2.drewN q).lb kk hkk).2; omega)).mono ?_
      rintro e w4 ⟨⟨t, rfl⟩, hb4, hmem⟩
      have hm4 := hid (hmem B2 (fun k' j' => by
        rw [HS2.out.2.2.2 k' j']
        by_cases e : k' = kk ∧ j' = bud ii
        · simp [e]
        · simp [e]) HS2.out.2.2.1)
      have ht4 : Turn (Own m K gf) w w4 := ((htr.drewN q).alloc _).then hb4 (.inl (.inr ⟨kk, hkk, rfl⟩))
      clear hb4 hmem
      go_wp2_with fail
      exact ⟨⟨kk + 1, ii / 2, hk1, by go_num, by go_num, ⟨B2, HS2.out.1, HS2.out.2.1, hB'.out.2.2.1.trans HS2.out.2.2.1, hm4.out⟩, ht4⟩, by simp [intOf]; omega⟩
    · rw [decide_eq_false hfree]
      obtain ⟨B2, hi2, hh2, hs2, hf2⟩ := free_step hB'.out.1 hB'.out.2.1 hfree
      have HS2 := hid (And.intro hi2 (And.intro hh2 (And.intro hs2 hf2)))
      have hcp3 : (wr.drewN q).cell? ⟨p, 1 + kk, none⟩ = some (.pointer (some ⟨bf kk, 0, none⟩)) := (hB'.out.2.2.2.drewN q).cptr kk hkk
      clear hi2 hh2 hs2 hf2 hfree
      go_wp2_with fail
      refine (mem_set ((hB'.out.2.2.2.drewN q).alloc _) true kk ii (wr.drewN q).heap.size hkk hii (heap_alloc_new _ _) (by have := ((hB'.out.2.2.2.drewN q).lb kk hkk).2; omega)).mono ?_
      rintro e w4 ⟨⟨t, rfl⟩, hb4, hmem⟩
      have hm4 := hid (hmem B2 (fun k' j' => by
        rw [HS2.out.2.2.2 k' j']
        by_cases e : k' = kk ∧ j' = ii
        · simp [e]
        · simp [e]) HS2.out.2.2.1)
      have ht4 : Turn (Own m K gf) w w4 := ((htr.drewN q).alloc _).then hb4 (.inl (.inr ⟨kk, hkk, rfl⟩))
      clear hb4 hmem
      go_wp2_with fail
      go_ret
      refine ⟨_, rfl, ht4, .inr ⟨k, i, B2, rfl, HB.out, HA.out, fun k' i' => ?_, HS2.out.1, HS2.out.2.1, hm4.out⟩⟩
      rw [← HS2.out.2.2.1 k' i', ← hB'.out.2.2.1 k' i']
      exact H1.out.2.2.1 k' i'

theorem give_any (w : World) (p m K : Nat) (bf gf : Nat → Nat) (B : St) (c : Nat) (a : Int) (hM : Mem w p m K bf gf B c) (hi : Inv K B) (hn : NoHeld B) (ha : (Lit.int .i64 a).wf = true) :
    Calls Tryd.prog 11 #[.pointer (some ⟨p, 0, none⟩), .int .i64 a] w (GivePost w p m K bf gf B c a) := by
  by_cases h : ∃ k i, B k i = .used ∧ a = addr k i
  · obtain ⟨k, i, hb, rfl⟩ := h
    exact give_some w p m K bf gf B c k i hM hi hn hb
  · exact give_none w p m K bf gf B c a hM ha (fun k i hb e => h ⟨k, i, hb, e⟩)
end Go.Proofs.YtohaoeilodebmaaDoor
