/- Contracts of Left, Greatest, leastFree. -/
import Derived.Test.YtohaoeilodebmaaDoorG
import Derived.Deep.MidRow
namespace Go.Proofs.YtohaoeilodebmaaDoor
open Go.RowKit Go.Maps

theorem count_nil (w : World) : Calls Tryd.prog 42 #[.pointer none] w fun e w' => e = .returned (.int .i64 0) ∧ w' = w := by
  go_enter Tryd.func42, Tryd.ntmps42
  go_wp2
  go_ret
  exact ⟨rfl, rfl⟩
theorem first_nil (w : World) : Calls Tryd.prog 40 #[.pointer none, .bool true, .int .i64 0] w fun e w' => e = .returned (.int .i64 (-1)) ∧ w' = w := by
  go_enter Tryd.func40, Tryd.ntmps40
  go_wp2_with fail
  refine (len_nil _).mono ?_
  rintro e w1 ⟨rfl, rfl⟩
  go_wp2_with fail
  refine (ahead_none _ true 0 0 _ (by omega)).mono ?_
  rintro e w2 ⟨rfl, rfl⟩
  go_wp2_with fail
  go_ret
  exact ⟨rfl, rfl⟩

theorem info64 : (Tryd.prog.info? 64).map (·.size) = some 21 := by kernel_rfl
theorem run_index56 (n : Nat) (bf : Nat → Nat) (k : Nat) (hk : k < 21) (w : World) :
    (Instr.index 64 (.agg (ptrs n bf)) (.int .i64 (k : Int))).run Tryd.prog w = .ok (ptrOf n bf k) w := by
  have hx := ptrs_get n bf k hk
  have h2 : (0 ≤ (k : Int) ∧ (k : Int) < ((21 : Nat) : Int)) := by omega
  have hs : (sizeOf 63).run Tryd.prog w = .ok 1 w := by kernel_rfl
  simp [Instr.index, run_underlying Tryd.underlying64, asIntOf, go_sem, part, hx, hs, hk]
theorem range56 (w : World) (p K n : Nat) (bf : Nat → Nat) (m : Nat) (h : w.heap[p]? = some (.cells (budCells K n bf m) 66)) : w.rangeAt p 1 (ptrs n bf).toList := fun j v hv => by
  have hj : j < 21 := by
    have := (List.getElem?_eq_some_iff.1 hv).1
    simpa [ptrs] using this
  rw [cell_of_row w p (1 + j) _ _ _ h, budCells_ptr _ _ _ _ _ hj]
  rw [Array.getElem?_toList, ptrs_get n bf j hj] at hv
  exact hv
/-- The whole row of maps, loaded. -/
theorem wpList_load56 {ops : Array Oper} {rest : List Oper} {op : Oper} {a : Act} {w : World} {Q : Exit → Act → World → Prop} (hgd : op.guard = none) (x : Operand) (ho : op.op = .load 64 x)
    (p K n : Nat) (bf : Nat → Nat) (m : Nat) (A : Array Value) (hx : a.eval x = .pointer (some ⟨p, 1, none⟩)) (hb : w.heap[p]? = some (.cells (budCells K n bf m) 66)) (hA : ptrs n bf = A)
    (h : wpList Tryd.prog ops Q rest (a.put op.dst (.agg A)) w) : wpList Tryd.prog ops Q (op :: rest) a w := by
  refine wpList_load_mid hgd 64 x ho p 1 hx (ptrs n bf).toList _ (range56 w p K n bf m hb) Tryd.underlying64 rfl (by rw [info64]; simp [ptrs]) ?_
  rw [Array.toArray_toList, hA]; exact h

theorem cnt_off {f : Nat → Bool} {n : Nat} (h : ∀ i, n ≤ i → f i = false) : ∀ r, cnt f (n + r) = cnt f n
  | 0 => rfl
  | r + 1 => by
    show cnt f (n + r) + (f (n + r)).toNat = _
    rw [cnt_off h r, h _ (by omega)]; rfl
theorem count_cnt {n : Nat} {ws : List Nat} (h : Okm n ws) : count ws = cnt (bit ws) n := by
  unfold count
  rw [total_eq]
  obtain ⟨r, hr⟩ : ∃ r, 64 * ws.length = n + r := ⟨64 * ws.length - n, by rw [h.len]; omega⟩
  rw [hr, cnt_off h.off]

/-- Count of one of the maps, a nil one too. -/
theorem mem_count {w : World} {p m K : Nat} {bf gf : Nat → Nat} {B : St} {c : Nat} (h : Mem w p m K bf gf B c) (hi : Inv K B) (k : Nat) :
    Calls Tryd.prog 42 #[ptrOf (K + 1) bf k] w fun e w' => e = .returned (.int .i64 (cnt (isK B .free k) (2 ^ (K - k)) : Int)) ∧ w' = w := by
  unfold ptrOf
  by_cases hk : k ≤ K
  · rw [if_pos (by omega)]
    obtain ⟨ws, hB, hw⟩ := h.maps k hk
    rw [← cnt_congr (f := bit ws) (fun i hi => by
      have := hw i hi
      unfold isK
      cases hb : bit ws i
      · rw [hb] at this; rw [decide_eq_false]; intro h2; have := this.2 h2; cases this
      · rw [decide_eq_true (this.1 hb)]), ← count_cnt hB.ok]
    exact count_any _ _ _ _ _ hB
  · rw [if_neg (by omega)]
    have e : cnt (isK B .free k) (2 ^ (K - k)) = 0 := by
      have : ∀ n, cnt (isK B .free k) n = 0 := by
        intro n
        induction n with
        | zero => rfl
        | succ n ih =>
          unfold cnt
          rw [ih]
          unfold isK
          rw [decide_eq_false]
          · rfl
          · intro hf
            have := (hi.inn k n (by rw [hf]; simp)).1
            omega
      exact this _
    rw [e]
    exact count_nil w

theorem pages_bound {K : Nat} (hK : K ≤ 20) (f : Nat → Nat → Bool) : ∀ j, j ≤ 21 → pages K f j ≤ j * 1048576
  | 0, _ => by simp [pages]
  | j + 1, h => by
    have h1 := pages_bound hK f j (by omega)
    have h2 := cnt_le (f j) (2 ^ (K - j))
    have h3 : cnt (f j) (2 ^ (K - j)) * 2 ^ j ≤ 2 ^ (K - j) * 2 ^ j := Nat.mul_le_mul_right _ h2
    rw [← Nat.pow_add] at h3
    have h4 := pow_le20 (show K - j + j ≤ 20 by omega)
    unfold pages
    omega
theorem pages_top {K : Nat} {B : St} (hi : Inv K B) {x : Kind} (hx : x ≠ .no) : ∀ j, K + 1 ≤ j → pages K (isK B x) j = pages K (isK B x) (K + 1) := by
  intro j hj
  obtain ⟨d, rfl⟩ := Nat.exists_eq_add_of_le hj
  clear hj
  induction d with
  | zero => rfl
  | succ d ih =>
    rw [show K + 1 + (d + 1) = (K + 1 + d) + 1 from rfl]
    have : ∀ n, cnt (isK B x (K + 1 + d)) n = 0 := by
      intro n
      induction n with
      | zero => rfl
      | succ n ih =>
        unfold cnt
        rw [ih]
        unfold isK
        rw [decide_eq_false]
        · rfl
        · intro hf
          have := (hi.inn _ n (by rw [hf]; exact hx)).1
          omega
    show pages K (isK B x) (K + 1 + d) + _ = _
    rw [this, ih]; omega

set_option maxRecDepth 100000 in
theorem left_any (w : World) (p m K : Nat) (bf gf : Nat → Nat) (B : St) (c : Nat) (hM : Mem w p m K bf gf B c) (hi : Inv K B) :
    Calls Tryd.prog 15 #[.pointer (some ⟨p, 0, none⟩)] w fun e w' => e = .returned (.int .i64 ((pages K (isK B .free) (K + 1) * 1024 : Nat) : Int)) ∧ w' = w := by
  have hl := hid hM.head
  have hix := fun k hk => run_index56 (K + 1) bf k hk w
  have hc := fun k => mem_count hM hi k
  rw [← pages_top hi (by simp) 21 (by have := hM.small; omega)]
  have hb := pages_bound hM.small (isK B .free)
  have hcb : ∀ k, k < 21 → cnt (isK B .free k) (2 ^ (K - k)) ≤ 1048576 := fun k hk => Nat.le_trans (cnt_le _ _) (pow_le20 (by have := hM.small; omega))
  have hst : ∀ k, pages K (isK B .free) (k + 1) = pages K (isK B .free) k + cnt (isK B .free k) (2 ^ (K - k)) * 2 ^ k := fun _ => rfl
  generalize hA : ptrs (K + 1) bf = A at *
  have HA := hid hA
  generalize hpt : ptrOf (K + 1) bf = pt at *
  generalize hpg : pages K (isK B .free) = pg at *
  have hp0 : pg 0 = 0 := by rw [← hpg]; rfl
  generalize (fun k => cnt (isK B .free k) (2 ^ (K - k))) = cc at *
  have HC := hid hc
  have HX := hid hix
  have HB := hid hb
  have HCB := hid hcb
  have HST := hid hst
  clear hM hi hc hix hb hcb hst hpt hpg hA
  go_enter Tryd.func15, Tryd.ntmps15
  go_wp2_with (refine wpList_load56 rfl _ rfl p K (K + 1) bf m A rfl hl.out HA.out ?_)
  go_loop [3, 12] (fun t i => ∃ k : Nat, k ≤ 21 ∧ i = .int .i64 k ∧ t = .int .i64 ((pg k * 1024 : Nat) : Int)) (fun _ i => 21 - (intOf i).toNat)
  case atStart => exact ⟨0, by omega, rfl, by rw [hp0]; rfl⟩
  case round =>
    obtain ⟨k, hk, rfl, rfl⟩ := hrel
    by_cases hlt : k < 21
    · have hx := HX.out k hlt
      have h1 := HB.out k (by omega)
      have h2 := HB.out (k + 1) (by omega)
      have h3 := HCB.out k hlt
      have hc := HC.out k
      have h4 := HST.out k
      have hpw := pow_le20 (show k ≤ 20 by omega)
      generalize hy : pg (k + 1) = y at *
      have HY := hid hy
      generalize pg k = x at *
      generalize cnt (isK B .free k) (2 ^ (K - k)) = n at *
      have hprod : (n : Int) * ((1024 * 2 ^ k : Nat) : Int) = ((n * 2 ^ k * 1024 : Nat) : Int) := by
        rw [← Int.natCast_mul]; congr 1; rw [Nat.mul_comm 1024, Nat.mul_assoc]
      generalize hz : n * 2 ^ k = z at *
      obtain ⟨s, hs⟩ : ∃ s : Int, s = ((1024 * 2 ^ k : Nat) : Int) := ⟨_, rfl⟩
      have HS := hid hs
      rw [← hs] at hprod
      clear HC HX HB HCB HST hs hy
      go_wp2_with fail
      refine hc.mono ?_
      rintro e w1 ⟨rfl, rfl⟩
      go_wp2_with fail
      refine (bytesOf_any k _ (by omega)).mono ?_
      rintro e w1 ⟨rfl, rfl⟩
      rw [← HS.out]
      go_wp2_with fail
      go_round
      case rel => exact ⟨k + 1, by omega, by go_num, by rw [HY.out, h4]; go_num⟩
      case measure => simp [intOf]; omega
    · obtain rfl : k = 21 := by omega
      go_wp2
      go_ret
      exact ⟨rfl, rfl⟩

/-- r is the first free block of the order from there on; -1 without. -/
def FirstB (B : St) (k f : Nat) (r : Int) : Prop :=
  (r = -1 ∧ ∀ j, f ≤ j → B k j ≠ .free) ∨ ∃ i : Nat, r = (i : Int) ∧ f ≤ i ∧ B k i = .free ∧ ∀ j, f ≤ j → j < i → B k j ≠ .free
def FirstPost (B : St) (k f : Nat) (w : World) (e : Ending) (w' : World) : Prop := ∃ r, e = .returned (.int .i64 r) ∧ FirstB B k f r ∧ w' = w

theorem mem_first {w : World} {p m K : Nat} {bf gf : Nat → Nat} {B : St} {c : Nat} (h : Mem w p m K bf gf B c) (hi : Inv K B) (hT : Tab w) (k f : Nat) (hk : k ≤ K ∨ f = 0) (hf : f ≤ 1048576) :
    Calls Tryd.prog 40 #[ptrOf (K + 1) bf k, .bool true, .int .i64 (f : Int)] w (FirstPost B k f w) := by
  unfold ptrOf
  by_cases hk' : k ≤ K
  · rw [if_pos (by omega)]
    obtain ⟨ws, hB, hw⟩ := h.maps k hk'
    refine (first_any (bf k) (gf k) (2 ^ (K - k)) ws true f w hB hT (by omega)).mono ?_
    rintro e w' ⟨r, rfl, hr, rfl⟩
    refine ⟨r, rfl, ?_, rfl⟩
    rcases hr with ⟨rfl, h1⟩ | ⟨i, rfl, h1, h2, h3, h4⟩
    · refine .inl ⟨rfl, fun j hj hb => ?_⟩
      have hlt := (hi.inn k j (by rw [hb]; simp)).2
      exact h1 j hj hlt ((hw j hlt).2 hb)
    · refine .inr ⟨i, rfl, h1, (hw i h2).1 h3, fun j hj1 hj2 hb => ?_⟩
      have hlt := (hi.inn k j (by rw [hb]; simp)).2
      exact h4 j hj1 hj2 ((hw j hlt).2 hb)
  · rw [if_neg (by omega)]
    obtain rfl : f = 0 := by omega
    refine (first_nil w).mono ?_
    rintro e w' ⟨rfl, rfl⟩
    refine ⟨-1, rfl, .inl ⟨rfl, fun j _ hb => ?_⟩, rfl⟩
    have := (hi.inn k j (by rw [hb]; simp)).1
    omega
theorem mem_first' {w : World} {p m K : Nat} {bf gf : Nat → Nat} {B : St} {c : Nat} (h : Mem w p m K bf gf B c) (hi : Inv K B) (hT : Tab w) (k : Nat) (hk : k ≤ K) :
    Calls Tryd.prog 40 #[.pointer (some ⟨bf k, 0, none⟩), .bool true, .int .i64 0] w (FirstPost B k 0 w) := by
  have := mem_first h hi hT k 0 (.inr rfl) (by omega)
  rwa [ptrOf, if_pos (by omega)] at this

def GreatB (B : St) (r : Int) : Prop := (r = -1 ∧ ∀ k i, B k i ≠ .free) ∨ ∃ k i : Nat, r = (k : Int) ∧ B k i = .free ∧ ∀ k' i', B k' i' = .free → k' ≤ k
def GreatPost (B : St) (w : World) (e : Ending) (w' : World) : Prop := ∃ r, e = .returned (.int .i64 r) ∧ GreatB B r ∧ w' = w

theorem greatest_any (w : World) (p m K : Nat) (bf gf : Nat → Nat) (B : St) (c : Nat) (hM : Mem w p m K bf gf B c) (hi : Inv K B) (hT : Tab w) :
    Calls Tryd.prog 16 #[.pointer (some ⟨p, 0, none⟩)] w (GreatPost B w) := by
  have h0 := hM.cK
  have hK := hM.small
  have HM := hid hM
  have HI := hid hi
  have HT := hid hT
  clear hM hi hT
  go_enter Tryd.func16, Tryd.ntmps16
  go_wp2_with fail
  go_loop [3] (fun t => ∃ j : Nat, j ≤ K + 1 ∧ t = .int .i64 ((j : Int) - 1) ∧ Hid (∀ k i, j ≤ k → B k i ≠ .free)) (fun t => (intOf t + 1).toNat)
  case atStart => exact ⟨K + 1, by omega, by congr 1; omega, fun k i hk hb => by have := (HI.out.inn k i (by rw [hb]; simp)).1; omega⟩
  case round =>
    obtain ⟨j, hj, rfl, hn⟩ := hrel
    by_cases hpos : 0 < j
    · obtain ⟨k, rfl⟩ : ∃ k, j = k + 1 := ⟨j - 1, by omega⟩
      have hcp := HM.out.cptr k (by omega)
      have e1 : ((k + 1 : Nat) : Int) - 1 = (k : Int) := by omega
      rw [e1]
      have hk20 : k < 21 := by omega
      go_wp2_with fail
      refine (mem_first' HM.out HI.out HT.out k (by omega)).mono ?_
      rintro e w1 ⟨r, rfl, hr, rfl⟩
      rcases hr with ⟨rfl, hnone⟩ | ⟨i, rfl, _, hfree, _⟩
      · have HN := hid hnone
        clear hnone
        go_wp2_with fail
        go_round
        case rel =>
          refine ⟨k, by omega, by go_num, fun k' i' hk' => ?_⟩
          by_cases e : k' = k
          · subst e; exact HN.out i' (Nat.zero_le _)
          · exact hn.out k' i' (by omega)
        case measure => simp [intOf]
      · have HF := hid hfree
        clear hfree
        go_wp2_with fail
        go_ret
        refine ⟨_, rfl, .inr ⟨k, i, rfl, HF.out, fun k' i' hb => ?_⟩, rfl⟩
        apply Decidable.byContradiction
        intro hlt
        exact hn.out k' i' (by omega) hb
    · obtain rfl : j = 0 := by omega
      go_wp2_with fail
      go_ret
      exact ⟨_, rfl, .inl ⟨rfl, fun k i => hn.out k i (Nat.zero_le _)⟩, rfl⟩

/-- The lowest free block of the least order from there on. -/
def Least (B : St) (o k i : Nat) : Prop := o ≤ k ∧ B k i = .free ∧ (∀ j, j < i → B k j ≠ .free) ∧ ∀ k' j, o ≤ k' → k' < k → B k' j ≠ .free
def LeastPost (B : St) (o : Nat) (w : World) (e : Ending) (w' : World) : Prop :=
  ∃ k i : Int, e = .returned (.tuple #[.int .i64 k, .int .i64 i]) ∧ w' = w ∧ ((i = -1 ∧ ∀ k' j, o ≤ k' → B k' j ≠ .free) ∨ ∃ k' i' : Nat, k = (k' : Int) ∧ i = (i' : Int) ∧ Least B o k' i')

theorem leastFree_any (w : World) (p m K : Nat) (bf gf : Nat → Nat) (B : St) (c o : Nat) (hM : Mem w p m K bf gf B c) (hi : Inv K B) (hT : Tab w) (ho : o ≤ K) :
    Calls Tryd.prog 38 #[.pointer (some ⟨p, 0, none⟩), .int .i64 (o : Int)] w (LeastPost B o w) := by
  have h0 := hM.cK
  have hK := hM.small
  have HM := hid hM
  have HI := hid hi
  have HT := hid hT
  clear hM hi hT
  go_enter Tryd.func38, Tryd.ntmps38
  go_wp2_with fail
  go_loop [6] (fun t => ∃ k : Nat, o ≤ k ∧ k ≤ K + 1 ∧ t = .int .i64 (k : Int) ∧ Hid (∀ k' j, o ≤ k' → k' < k → B k' j ≠ .free)) (fun t => (K : Nat) + 1 - (intOf t).toNat)
  case atStart => exact ⟨o, by omega, by omega, rfl, fun k' j h1 h2 => by omega⟩
  case round =>
    obtain ⟨k, hok, hj, rfl, hn⟩ := hrel
    by_cases hlt : k ≤ K
    · have hcp := HM.out.cptr k hlt
      have hk20 : k < 21 := by omega
      go_wp2_with fail
      refine (mem_first' HM.out HI.out HT.out k hlt).mono ?_
      rintro e w1 ⟨r, rfl, hr, rfl⟩
      rcases hr with ⟨rfl, hnone⟩ | ⟨i, rfl, _, hfree, hfirst⟩
      · have HN := hid hnone
        clear hnone
        go_wp2_with fail
        go_round
        case rel =>
          refine ⟨k + 1, by omega, by omega, by go_num, fun k' j h1 h2 => ?_⟩
          by_cases e : k' = k
          · subst e; exact HN.out j (Nat.zero_le _)
          · exact hn.out k' j h1 (by omega)
        case measure => simp [intOf]; omega
      · have HF := hid (And.intro hfree hfirst)
        clear hfree hfirst
        go_wp2_with fail
        go_ret2
        exact ⟨_, _, rfl, rfl, .inr ⟨k, i, rfl, rfl, hok, HF.out.1, fun j hj => HF.out.2 j (Nat.zero_le _) hj, hn.out⟩⟩
    · obtain rfl : k = K + 1 := by omega
      go_wp2_with fail
      go_ret2
      refine ⟨_, _, rfl, rfl, .inl ⟨rfl, fun k' j h1 hb => ?_⟩⟩
      have := (HI.out.inn k' j (by rw [hb]; simp)).1
      exact hn.out k' j h1 (by omega) hb
end Go.Proofs.YtohaoeilodebmaaDoor
