/- A cache: the contract of find. -/
import Derived.Test.YtohaoeilodebmaaDoorS13
namespace Go.Proofs.YtohaoeilodebmaaDoor
open Go.RowKit Go.Maps

theorem wpList_lookup_none (w : World) {ops : Array Oper} {rest : List Oper} {o : Oper} {a : Act} {Q : Exit → Act → World → Prop} (hg : o.guard = none) (m x : Operand) (hop : o.op = Op.lookup 75 m x false) (b n : Nat) (D : DataW Unit)
    (hm : a.eval m = .map (some b)) (hown : Pmap w b n D) (key : Value) (kl : Lit) (hx : a.eval x = key) (hkey : keyOf Tryd.prog 3 key = some kl) (hD : D.atKey kl .nil = .nil)
    (hK : wpList Tryd.prog ops Q rest (a.put o.dst (.pointer none)) w) : wpList Tryd.prog ops Q (o :: rest) a w := by
  refine wpList_lookup_ptr w hg m x hop b n D hm hown key kl hx hkey (fun s hs => ?_)
  cases s with
  | none => exact hK
  | some s => exact absurd (hs.symm.trans hD) (by simp)
theorem wpList_lookup_some (w : World) {ops : Array Oper} {rest : List Oper} {o : Oper} {a : Act} {Q : Exit → Act → World → Prop} (hg : o.guard = none) (m x : Operand) (hop : o.op = Op.lookup 75 m x false) (b n : Nat) (D : DataW Unit)
    (hm : a.eval m = .map (some b)) (hown : Pmap w b n D) (key : Value) (kl : Lit) (hx : a.eval x = key) (hkey : keyOf Tryd.prog 3 key = some kl) (r : Nat) (hD : D.atKey kl .nil = .lit (.int .i64 (r : Int)))
    (hK : wpList Tryd.prog ops Q rest (a.put o.dst (.pointer (some ⟨r, 0, none⟩))) w) : wpList Tryd.prog ops Q (o :: rest) a w := by
  refine wpList_lookup_ptr w hg m x hop b n D hm hown key kl hx hkey (fun s hs => ?_)
  cases s with
  | none => exact absurd (hs.symm.trans hD) (by simp)
  | some s =>
    have e := hs.symm.trans hD
    simp at e
    have e2 : s = r := by omega
    subst e2
    exact hK

theorem sfind_nil (w : World) (x : Int) : Calls Tryd.prog 53 #[.pointer none, .int .i64 x] w fun e w' => e = .returned (.tuple #[.pointer none, .int .i64 0]) ∧ w' = w := by
  go_enter Tryd.func53, Tryd.ntmps53
  go_wp2
  go_ret2
  exact ⟨rfl, rfl⟩
set_option maxRecDepth 100000 in
set_option maxHeartbeats 1000000 in
theorem sfind_no (w : World) (c mb nm : Nat) (D : DataW Unit) (x r y : Int) (h2 : w.cell? ⟨c, 2, none⟩ = some (.map (some mb))) (hown : Pmap w mb nm D) (hr : x.tmod 1024 = r) (hy : x - r = y) (hy1 : -9223372036854775808 ≤ y) (hy2 : y < 9223372036854775808) (hr1 : -1024 < r) (hr2 : r < 1024) (hD : D.atKey (.int .i64 y) .nil = .nil) :
    Calls Tryd.prog 53 #[.pointer (some ⟨c, 0, none⟩), .int .i64 x] w fun e w' => e = .returned (.tuple #[.pointer none, .int .i64 0]) ∧ w' = w := by
  have hwf := wf_i64 hy1 hy2
  have HU := hid hown
  have HD := hid hD
  clear hown hD
  go_enter Tryd.func53, Tryd.ntmps53
  go_wp2_with (at_lookup; refine wpList_lookup_none _ rfl _ _ rfl mb nm D rfl HU.out _ _ rfl (keyOf_int_mk Tryd.underlying3 hwf) HD.out ?_)
  go_ret2
  exact ⟨rfl, rfl⟩
set_option maxRecDepth 100000 in
set_option maxHeartbeats 1000000 in
theorem sfind_ahead (w : World) (c mb nm s : Nat) (D : DataW Unit) (x r y : Int) (h2 : w.cell? ⟨c, 2, none⟩ = some (.map (some mb))) (hown : Pmap w mb nm D) (hr : x.tmod 1024 = r) (hy : x - r = y) (hy1 : -9223372036854775808 ≤ y) (hy2 : y < 9223372036854775808) (hr1 : -1024 < r) (hr2 : r < 64) (hD : D.atKey (.int .i64 y) .nil = .lit (.int .i64 (s : Int))) :
    Calls Tryd.prog 53 #[.pointer (some ⟨c, 0, none⟩), .int .i64 x] w fun e w' => e = .returned (.tuple #[.pointer none, .int .i64 0]) ∧ w' = w := by
  have hwf := wf_i64 hy1 hy2
  have HU := hid hown
  have HD := hid hD
  have hneg : r - 64 < 0 := by omega
  clear hown hD
  go_enter Tryd.func53, Tryd.ntmps53
  go_wp2_with (at_lookup; refine wpList_lookup_some _ rfl _ _ rfl mb nm D rfl HU.out _ _ rfl (keyOf_int_mk Tryd.underlying3 hwf) s HD.out ?_)
  go_ret2
  exact ⟨rfl, rfl⟩
set_option maxRecDepth 100000 in
set_option maxHeartbeats 1000000 in
theorem sfind_odd (w : World) (c mb nm s sz d : Nat) (D : DataW Unit) (x r y : Int) (h1 : w.cell? ⟨c, 1, none⟩ = some (.int .i64 (sz : Int))) (h2 : w.cell? ⟨c, 2, none⟩ = some (.map (some mb))) (hown : Pmap w mb nm D) (hr : x.tmod 1024 = r) (hy : x - r = y) (hy1 : -9223372036854775808 ≤ y) (hy2 : y < 9223372036854775808) (hd : r - 64 = (d : Int)) (hr2 : r < 1024) (hz : 0 < sz) (hz2 : sz ≤ 512) (ho : d % sz ≠ 0) (hD : D.atKey (.int .i64 y) .nil = .lit (.int .i64 (s : Int))) :
    Calls Tryd.prog 53 #[.pointer (some ⟨c, 0, none⟩), .int .i64 x] w fun e w' => e = .returned (.tuple #[.pointer none, .int .i64 0]) ∧ w' = w := by
  have hwf := wf_i64 hy1 hy2
  have HU := hid hown
  have HD := hid hD
  have hz0 : ((sz : Int) == 0) = false := by rw [beq_eq_false_iff_ne]; omega
  obtain ⟨u, hu⟩ : ∃ u, u = d % sz := ⟨_, rfl⟩
  have hm : (d : Int).tmod (sz : Int) = (u : Int) := by rw [Int.tmod_eq_emod_of_nonneg (by omega), hu, Int.natCast_emod]
  have hu0 : ((u : Int) != 0) = true := by rw [bne_iff_ne]; omega
  have hu1 : u < 512 := by rw [hu]; exact Nat.lt_of_lt_of_le (Nat.mod_lt _ hz) hz2
  clear hown hD ho hu
  have hdb : d < 1024 := by omega
  go_enter Tryd.func53, Tryd.ntmps53
  go_wp2_with (at_lookup; refine wpList_lookup_some _ rfl _ _ rfl mb nm D rfl HU.out _ _ rfl (keyOf_int_mk Tryd.underlying3 hwf) s HD.out ?_)
  go_ret2
  exact ⟨rfl, rfl⟩
set_option maxRecDepth 100000 in
set_option maxHeartbeats 2000000 in
theorem sfind_on (w : World) (c mb nm s sz d i b g m : Nat) (ws : List Nat) (D : DataW Unit) (x r y : Int) (h1 : w.cell? ⟨c, 1, none⟩ = some (.int .i64 (sz : Int))) (h2 : w.cell? ⟨c, 2, none⟩ = some (.map (some mb))) (hown : Pmap w mb nm D) (hr : x.tmod 1024 = r) (hy : x - r = y) (hy1 : -9223372036854775808 ≤ y) (hy2 : y < 9223372036854775808) (hd : r - 64 = (d : Int)) (hr2 : r < 1024) (hz : 0 < sz) (hz2 : sz ≤ 512) (ho : d = i * sz)
    (h3 : w.cell? ⟨s, 0, none⟩ = some (.pointer (some ⟨b, 0, none⟩))) (hB : Bits w b g m ws) (hon : getB m ws (i : Int) = true) (hD : D.atKey (.int .i64 y) .nil = .lit (.int .i64 (s : Int))) :
    Calls Tryd.prog 53 #[.pointer (some ⟨c, 0, none⟩), .int .i64 x] w fun e w' => e = .returned (.tuple #[.pointer (some ⟨s, 0, none⟩), .int .i64 (i : Int)]) ∧ ∃ k, w' = w.drewN k := by
  have hwf := wf_i64 hy1 hy2
  have HU := hid hown
  have HD := hid hD
  have HB := hid (And.intro hB hon)
  have hz0 : ((sz : Int) == 0) = false := by rw [beq_eq_false_iff_ne]; omega
  have hm : (d : Int).tmod (sz : Int) = 0 := by rw [Int.tmod_eq_emod_of_nonneg (by omega), ho, Int.natCast_mul]; exact Int.mul_emod_left _ _
  have hq : (d : Int).tdiv (sz : Int) = (i : Int) := by rw [Int.tdiv_eq_ediv_of_nonneg (by omega), ho, Int.natCast_mul]; exact Int.mul_ediv_cancel _ (by omega)
  have hdb : d < 1024 := by omega
  have hib : i < 1024 := by
    have : i * 1 ≤ i * sz := Nat.mul_le_mul_left _ (by omega)
    omega
  clear hown hD ho hB hon
  go_enter Tryd.func53, Tryd.ntmps53
  go_wp2_with (first | (at_lookup; refine wpList_lookup_some _ rfl _ _ rfl mb nm D rfl HU.out _ _ rfl (keyOf_int_mk Tryd.underlying3 hwf) s HD.out ?_) | (go_at_call 39; refine (get_any b g m ws (i : Int) _ HB.out.1).mono ?_; rw [HB.out.2]; rintro e w1 ⟨rfl, k, rfl⟩))
  go_ret2
  exact ⟨rfl, k, rfl⟩
set_option maxRecDepth 100000 in
set_option maxHeartbeats 2000000 in
theorem sfind_off (w : World) (c mb nm s sz d i b g m : Nat) (ws : List Nat) (D : DataW Unit) (x r y : Int) (h1 : w.cell? ⟨c, 1, none⟩ = some (.int .i64 (sz : Int))) (h2 : w.cell? ⟨c, 2, none⟩ = some (.map (some mb))) (hown : Pmap w mb nm D) (hr : x.tmod 1024 = r) (hy : x - r = y) (hy1 : -9223372036854775808 ≤ y) (hy2 : y < 9223372036854775808) (hd : r - 64 = (d : Int)) (hr2 : r < 1024) (hz : 0 < sz) (hz2 : sz ≤ 512) (ho : d = i * sz)
    (h3 : w.cell? ⟨s, 0, none⟩ = some (.pointer (some ⟨b, 0, none⟩))) (hB : Bits w b g m ws) (hon : getB m ws (i : Int) = false) (hD : D.atKey (.int .i64 y) .nil = .lit (.int .i64 (s : Int))) :
    Calls Tryd.prog 53 #[.pointer (some ⟨c, 0, none⟩), .int .i64 x] w fun e w' => e = .returned (.tuple #[.pointer none, .int .i64 0]) ∧ ∃ k, w' = w.drewN k := by
  have hwf := wf_i64 hy1 hy2
  have HU := hid hown
  have HD := hid hD
  have HB := hid (And.intro hB hon)
  have hz0 : ((sz : Int) == 0) = false := by rw [beq_eq_false_iff_ne]; omega
  have hm : (d : Int).tmod (sz : Int) = 0 := by rw [Int.tmod_eq_emod_of_nonneg (by omega), ho, Int.natCast_mul]; exact Int.mul_emod_left _ _
  have hq : (d : Int).tdiv (sz : Int) = (i : Int) := by rw [Int.tdiv_eq_ediv_of_nonneg (by omega), ho, Int.natCast_mul]; exact Int.mul_ediv_cancel _ (by omega)
  have hdb : d < 1024 := by omega
  have hib : i < 1024 := by
    have : i * 1 ≤ i * sz := Nat.mul_le_mul_left _ (by omega)
    omega
  clear hown hD ho hB hon
  go_enter Tryd.func53, Tryd.ntmps53
  go_wp2_with (first | (at_lookup; refine wpList_lookup_some _ rfl _ _ rfl mb nm D rfl HU.out _ _ rfl (keyOf_int_mk Tryd.underlying3 hwf) s HD.out ?_) | (go_at_call 39; refine (get_any b g m ws (i : Int) _ HB.out.1).mono ?_; rw [HB.out.2]; rintro e w1 ⟨rfl, k, rfl⟩))
  go_ret2
  exact ⟨rfl, k, rfl⟩

/-- What find answers. -/
def SFindPost (w : World) (m sz : Nat) (sb : Nat → Nat) (S : Nat → Prop) (U : Pls) (x : Int) (e : Ending) (w' : World) : Prop :=
  ((e = .returned (.tuple #[.pointer none, .int .i64 0]) ∧ ∀ q i, S q → i < m → U q i = true → x ≠ ((place sz q i : Nat) : Int)) ∨
   ∃ q i, S q ∧ i < m ∧ U q i = true ∧ x = ((place sz q i : Nat) : Int) ∧ e = .returned (.tuple #[.pointer (some ⟨sb q, 0, none⟩), .int .i64 (i : Int)])) ∧ ∃ k, w' = w.drewN k
/-- An address that is a place's: its remainder, and what is left. -/
theorem place_rem {sz m q i : Nat} (h0 : 0 < sz) (hsz : 64 + m * sz ≤ 1024) (hi : i < m) : ((place sz q i : Nat) : Int).tmod 1024 = 64 + ((i * sz : Nat) : Int) ∧ ((place sz q i : Nat) : Int) - ((place sz q i : Nat) : Int).tmod 1024 = pag q := by
  have h1 := (place_in (p := q) hsz hi).1
  have e : ((place sz q i : Nat) : Int).tmod 1024 = 64 + ((i * sz : Nat) : Int) := by
    rw [Int.tmod_eq_emod_of_nonneg (by omega)]
    unfold place
    generalize i * sz = z at *
    generalize m * sz = y at *
    omega
  refine ⟨e, ?_⟩
  rw [e]; unfold place pag; omega

theorem sfind_any {w : World} {c p sz m mb nm : Nat} {D : DataW Unit} {a : Option Addr} {cap nn : Nat} {L sb bm gm : Nat → Nat} {ws : Nat → List Nat} {S O : Nat → Prop} {U : Pls} (h : Ca w c p sz m mb nm D a cap nn L sb bm gm ws S O U) (h0 : 0 < sz) (hz : sz ≤ 512) (hsz : 64 + m * sz ≤ 1024) (x : Int) (hx1 : -9223372036854775808 ≤ x) (hx2 : x < 9223372036854775808) :
    Calls Tryd.prog 53 #[.pointer (some ⟨c, 0, none⟩), .int .i64 x] w (SFindPost w m sz sb S U x) := by
  obtain ⟨r, hr⟩ : ∃ r, x.tmod 1024 = r := ⟨_, rfl⟩
  have hrb : -1024 < r ∧ r < 1024 ∧ (0 ≤ x → 0 ≤ r ∧ r ≤ x) ∧ (x < 0 → r ≤ 0 ∧ x ≤ r) := by
    rw [← hr]
    refine ⟨Int.lt_tmod_of_pos x (by omega), Int.tmod_lt_of_pos x (by omega), fun h => ?_, fun h => ?_⟩
    · rw [Int.tmod_eq_emod_of_nonneg h]; omega
    · have e : x = -(-x) := by omega
      rw [e, Int.neg_tmod, Int.tmod_eq_emod_of_nonneg (by omega)]; omega
  obtain ⟨hr1, hr2, hr3, hr4⟩ := hrb
  obtain ⟨y, hy⟩ : ∃ y, x - r = y := ⟨_, rfl⟩
  have hyb : -9223372036854775808 ≤ y ∧ y < 9223372036854775808 := by
    by_cases hn : 0 ≤ x
    · have := hr3 hn; omega
    · have := hr4 (by omega); omega
  have key : ∀ q i, i < m → x = ((place sz q i : Nat) : Int) → r = 64 + ((i * sz : Nat) : Int) ∧ y = pag q := fun q i hi e => by
    have := place_rem (q := q) h0 hsz hi
    rw [← e, hr, hy] at this
    exact this
  by_cases hS : ∃ q, S q ∧ y = pag q
  · obtain ⟨q, hq, rfl⟩ := hS
    have hD := h.says.val q hq .nil
    by_cases h64 : r < 64
    · refine (sfind_ahead w c mb nm (sb q) D x r (pag q) h.c2 h.map hr hy hyb.1 hyb.2 hr1 h64 hD).mono ?_
      rintro e w' ⟨rfl, rfl⟩
      refine ⟨.inl ⟨rfl, fun q' i _ hi _ e => ?_⟩, 0, rfl⟩
      have := (key q' i hi e).1
      omega
    · obtain ⟨d, hd⟩ := Int.eq_ofNat_of_zero_le (show 0 ≤ r - 64 by omega)
      by_cases ho : d % sz = 0
      · have hdi : d = d / sz * sz := by have := Nat.div_add_mod d sz; rw [ho, Nat.mul_comm] at this; omega
        generalize d / sz = i at hdi
        have hxe : x = ((place sz q i : Nat) : Int) := by unfold place; rw [← hdi]; unfold pag at hy; omega
        cases hg : getB m (ws q) (i : Int)
        · refine (sfind_off w c mb nm (sb q) sz d i (bm q) (gm q) m (ws q) D x r (pag q) h.c1 h.c2 h.map hr hy hyb.1 hyb.2 hd hr2 h0 hz hdi (h.s0 hq) (h.bits q hq) hg hD).mono ?_
          rintro e w' ⟨rfl, k, rfl⟩
          refine ⟨.inl ⟨rfl, fun q' i' hq' hi' hu e => ?_⟩, k, rfl⟩
          obtain ⟨e1, e2⟩ := key q' i' hi' e
          obtain rfl := pag_one e2
          have e3 : i' * sz = i * sz := by omega
          obtain rfl := Nat.eq_of_mul_eq_mul_right h0 e3
          rw [← h.bit_ q hq' i' hi'] at hu
          unfold getB hasB at hg
          rw [decide_eq_true (by omega), Bool.true_and, Int.toNat_natCast, hu] at hg
          cases hg
        · refine (sfind_on w c mb nm (sb q) sz d i (bm q) (gm q) m (ws q) D x r (pag q) h.c1 h.c2 h.map hr hy hyb.1 hyb.2 hd hr2 h0 hz hdi (h.s0 hq) (h.bits q hq) hg hD).mono ?_
          rintro e w' ⟨rfl, k, rfl⟩
          unfold getB hasB at hg
          rw [Bool.and_eq_true, decide_eq_true_iff, Int.toNat_natCast] at hg
          have him : i < m := by omega
          exact ⟨.inr ⟨q, i, hq, him, by rw [← h.bit_ q hq i him]; exact hg.2, hxe, rfl⟩, k, rfl⟩
      · refine (sfind_odd w c mb nm (sb q) sz d D x r (pag q) h.c1 h.c2 h.map hr hy hyb.1 hyb.2 hd hr2 h0 hz ho hD).mono ?_
        rintro e w' ⟨rfl, rfl⟩
        refine ⟨.inl ⟨rfl, fun q' i _ hi _ e => ?_⟩, 0, rfl⟩
        have := (key q' i hi e).1
        have e2 : d = i * sz := by omega
        exact ho (by rw [e2]; exact Nat.mul_mod_left _ _)
  · refine (sfind_no w c mb nm D x r y h.c2 h.map hr hy hyb.1 hyb.2 hr1 hr2 (h.says.non (fun q hq e => hS ⟨q, hq, e⟩) .nil)).mono ?_
    rintro e w' ⟨rfl, rfl⟩
    exact ⟨.inl ⟨rfl, fun q i hq hi _ e => hS ⟨q, hq, (key q i hi e).2⟩⟩, 0, rfl⟩
end Go.Proofs.YtohaoeilodebmaaDoor
