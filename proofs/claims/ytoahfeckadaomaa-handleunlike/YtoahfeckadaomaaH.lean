/- The places of one state, one by one: the iterator. -/
import Derived.Test.YtoahfeckadaomaaE
import Derived.Test.YtoahfeckadaomaaGr
namespace Go.Proofs.Ytoahfeckadaomaa
open Go.RowKit Go.Maps Go.Shelf
attribute [local go_sem] Oper.semAt_some

/-- The places below n of the state s. -/
def fl (T : Nat → Pl) (s n : Nat) : List Nat := (List.range n).filter fun i => (T i).st == s
theorem fl_yes {T : Nat → Pl} {s n : Nat} (h : (T n).st = s) : fl T s (n + 1) = fl T s n ++ [n] := by
  unfold fl; rw [List.range_succ, List.filter_append]; simp [h]
theorem fl_no {T : Nat → Pl} {s n : Nat} (h : (T n).st ≠ s) : fl T s (n + 1) = fl T s n := by
  unfold fl; rw [List.range_succ, List.filter_append]; simp [h]
theorem fl_len (T : Nat → Pl) (s : Nat) : ∀ n, (fl T s n).length ≤ n
  | 0 => by simp [fl]
  | n + 1 => by
    have ih := fl_len T s n
    by_cases e : (T n).st = s
    · rw [fl_yes e, List.length_append]; simp; omega
    · rw [fl_no e]; omega
theorem fl_hs (T : Nat → Pl) (s n : Nat) : hs T s n = (fl T s n).map fun i => hOf i (T i).ag := rfl

/-- What a round keeps: all below n₀, and the two boxes. -/
def Kp (n₀ B1 B2 : Nat) (A B : World) : Prop := Below n₀ A B ∧ B.heap[B1]? = A.heap[B1]? ∧ B.heap[B2]? = A.heap[B2]?
theorem Kp.trans {n₀ B1 B2 : Nat} {A B C : World} (h : Kp n₀ B1 B2 A B) (k : Kp n₀ B1 B2 B C) : Kp n₀ B1 B2 A C := ⟨h.1.trans k.1, k.2.1.trans h.2.1, k.2.2.trans h.2.2⟩
/-- What the iterator reads. -/
structure Rds (W : World) (n₀ B1 B2 b s : Nat) (T : Nat → Pl) : Prop where
  box1 : W.cell? ⟨B1, 0, none⟩ = some (.pointer (some ⟨b, 0, none⟩))
  box2 : W.cell? ⟨B2, 0, none⟩ = some (.int .i64 (s : Int))
  tb : Tb W b T
  lt : b < n₀
theorem Rds.keep {A B : World} {n₀ B1 B2 b s : Nat} {T : Nat → Pl} (h : Rds A n₀ B1 B2 b s T) (hk : Kp n₀ B1 B2 A B) : Rds B n₀ B1 B2 b s T :=
  ⟨(World.cell?_of_block hk.2.1).trans h.box1, (World.cell?_of_block hk.2.2).trans h.box2, h.tb.same (hk.1.block b h.lt), h.lt⟩
theorem Rds.drew {A : World} {n₀ B1 B2 b s : Nat} {T : Nat → Pl} (h : Rds A n₀ B1 B2 b s T) : Rds A.drew n₀ B1 B2 b s T := ⟨h.box1, h.box2, h.tb.same rfl, h.lt⟩
def plv (b : Nat) (x : Fin 256) : Array Value := #[.int .i64 ((x.val : Nat) : Int), .pointer (some ⟨b, x.val * 5, none⟩)]

set_option maxRecDepth 100000 in
set_option maxHeartbeats 1000000 in
theorem in1_in (n : Nat) (l B1 B2 n₀ b s : Nat) (T : Nat → Pl) (J Jx : List (Fin 256) → World → Prop)
    (hY : ∀ pre x W, J pre W → pre.length < 256 → YieldAt Fence.wide (n - 1) Try.prog l (plv b x) W fun e W' =>
      (e = .returned (.bool true) ∧ J (pre ++ [x]) W' ∧ Kp n₀ B1 B2 W W') ∨ (e = .returned (.bool false) ∧ Jx (pre ++ [x]) W'))
    (W : World) (hR : Rds W n₀ B1 B2 b s T) (hJd : ∀ pre W q, J pre W → J pre (W.drewN q)) (h0 : J [] W) :
    CallsIn Fence.wide n Try.prog 35 #[.func (.yield l) #[] #[], .pointer (some ⟨B1, 0, none⟩), .pointer (some ⟨B2, 0, none⟩)] W fun e W' => (∃ v, e = .returned v) ∧
      ((∃ ys : List (Fin 256), ys.map Fin.val = fl T s 256 ∧ J ys W') ∨ (∃ pre : List (Fin 256), (∃ k, k < 256 ∧ (T k).st = s ∧ pre.map Fin.val = fl T s k ++ [k]) ∧ Jx pre W')) := by
  have hc1 := hR.box1
  have HR := hid hR
  clear hR
  refine callsIn_of_wp Try.func35 rfl trivial ?_ rfl
  simp only [Try.ntmps35, List.size_toArray, List.length_cons, List.length_nil, Nat.reduceAdd, Nat.reduceSub, Array.replicate_succ, Array.replicate_zero, List.push_toArray, List.append_toArray, List.nil_append, List.cons_append]
  gi_wp2_with fail
  gi_loopw [8] (fun v wr => ∃ (pre : List (Fin 256)) (k : Nat), v = .int .i64 (k : Int) ∧ Hid (pre.map Fin.val = fl T s k) ∧ k ≤ 256 ∧ Hid (Rds wr n₀ B1 B2 b s T) ∧ J pre wr)
    (fun v _ => 256 - (intOf v).toNat)
  case atStart => exact ⟨[], 0, rfl, hid rfl, Nat.zero_le _, HR, h0⟩
  case round =>
    clear hc1 HR h0
    obtain ⟨pre, k, rfl, hpre, hk, HR, hJ⟩ := hrel
    by_cases hlt : k < 256
    · have c1 := HR.out.box1
      have c2 := HR.out.box2
      have c3 := HR.out.tb.cst hlt
      have hJ3 : J pre wr.drew := hJd pre wr 1 hJ
      have HR3 : Hid (Rds wr.drew n₀ B1 B2 b s T) := hid (HR.out.drew)
      by_cases hst : (T k).st = s
      · have hne : ((s : Int) == (s : Int)) = true := beq_self_eq_true _
        rw [hst] at c3
        have HS := hid (fl_yes hst)
        have HS2 := hid hst
        have hlen : pre.length < 256 := by
          have e1 := congrArg List.length hpre.out
          rw [List.length_map] at e1
          have := fl_len T s k
          omega
        clear hst
        gi_wp2_with fail
        refine regionHI (S := fun _ => True) (by kernel_rfl) ?_
        refine takeHI (i := 0) (some 16) (.pointer (some ⟨b, k * 5, none⟩)) rfl rfl (by kernel_rfl) (by kernel_rfl) (by kernel_rfl) (fun _ _ _ h => h) (Or.inl ⟨by rfl, ?_⟩) trivial ?_
        · (intro w _; go_simp)
        simp only [Act.put, List.setIfInBounds_toArray, List.set_cons_zero, List.set_cons_succ]
        refine takeHI (i := 1) (some 17) (.pointer (some ⟨b, k * 5, none⟩)) rfl rfl (by kernel_rfl) (by kernel_rfl) (by kernel_rfl) (fun _ _ _ h => h) (Or.inl ⟨by rfl, ?_⟩) trivial ?_
        · (intro w _; go_simp)
        simp only [Act.put, List.setIfInBounds_toArray, List.set_cons_zero, List.set_cons_succ]
        refine takeHI (i := 2) (some 18) (.pointer (some ⟨b, k * 5 + 3, none⟩)) rfl rfl (by kernel_rfl) (by kernel_rfl) (by kernel_rfl) (fun _ _ _ h => h) (Or.inl ⟨by rfl, ?_⟩) trivial ?_
        · (intro w _; go_simp)
        simp only [Act.put, List.setIfInBounds_toArray, List.set_cons_zero, List.set_cons_succ]
        refine twoHI (i := 3) (j := 4) (by kernel_rfl) rfl rfl (by rfl) (by rfl) (wpIn_val (.int .i64 (s : Int)) (some 19) rfl (by go_simp) ⟨trivial, ?_⟩) (wpIn_val (.int .i64 (s : Int)) (some 20) rfl (by go_simp) ⟨trivial, ?_⟩)
        rotate_left
        simp only [Act.put, List.setIfInBounds_toArray, List.set_cons_zero, List.set_cons_succ]
        refine oneHI (i := 3) (by kernel_rfl) rfl (by rfl) (wpIn_val (.int .i64 (s : Int)) (some 19) rfl (by go_simp) ⟨trivial, ?_⟩)
        rotate_left
        simp only [Act.put, List.setIfInBounds_toArray, List.set_cons_zero, List.set_cons_succ]
        refine oneHI (i := 4) (by kernel_rfl) rfl (by rfl) (wpIn_val (.int .i64 (s : Int)) (some 20) rfl (by go_simp) ⟨trivial, ?_⟩)
        all_goals
          simp only [Act.put, List.setIfInBounds_toArray, List.set_cons_zero, List.set_cons_succ]
          refine takeHI (i := 5) (some 21) (.bool true) rfl rfl (by kernel_rfl) (by kernel_rfl) (by kernel_rfl) (fun _ _ _ h => h) (Or.inl ⟨by rfl, ?_⟩) trivial ?_
          · (intro w _; go_simp)
          simp only [Act.put, List.setIfInBounds_toArray, List.set_cons_zero, List.set_cons_succ]
          refine takeHI (i := 6) (some 22) (.bool true) rfl rfl (by kernel_rfl) (by kernel_rfl) (by kernel_rfl) (fun _ _ _ h => h) (Or.inl ⟨by rfl, ?_⟩) trivial ?_
          · (intro w _; go_simp)
          simp only [Act.put, List.setIfInBounds_toArray, List.set_cons_zero, List.set_cons_succ]
          refine takeHI (i := 7) (some 23) (.func (.yield l) #[] #[]) rfl rfl (by kernel_rfl) (by kernel_rfl) (by kernel_rfl) (fun _ _ _ h => h) (Or.inl ⟨by rfl, ?_⟩) trivial ?_
          · (intro w _; go_simp)
          simp only [Act.put, List.setIfInBounds_toArray, List.set_cons_zero, List.set_cons_succ]
          refine takeHI (i := 8) (some 24) (.int .i64 (k : Int)) rfl rfl (by kernel_rfl) (by kernel_rfl) (by kernel_rfl) (fun _ _ _ h => h) (Or.inl ⟨by rfl, ?_⟩) trivial ?_
          · (intro w _; go_simp)
          simp only [Act.put, List.setIfInBounds_toArray, List.set_cons_zero, List.set_cons_succ]
          refine takeHI (i := 9) (some 25) (.pointer (some ⟨b, k * 5, none⟩)) rfl rfl (by kernel_rfl) (by kernel_rfl) (by kernel_rfl) (fun _ _ _ h => h) (Or.inl ⟨by rfl, ?_⟩) trivial ?_
          · (intro w _; go_simp)
          simp only [Act.put, List.setIfInBounds_toArray, List.set_cons_zero, List.set_cons_succ]
          refine oneHI (i := 10) (by kernel_rfl) rfl (by rfl) (wpIn_yield2 (some 26) rfl l _ _ _ _ _ rfl _ _ rfl rfl rfl ((hY pre ⟨k, hlt⟩ wr.drew hJ3 hlen).mono ?_))
          rintro e W3 (⟨rfl, hJ4, hk4⟩ | ⟨rfl, hJx4⟩)
          · refine ⟨_, rfl, trivial, ?_⟩
            simp only [Act.put, List.setIfInBounds_toArray, List.set_cons_zero, List.set_cons_succ]
            refine takeHI (i := 11) (some 27) (.bool false) rfl rfl (by kernel_rfl) (by kernel_rfl) (by kernel_rfl) (fun _ _ _ h => h) (Or.inl ⟨by rfl, ?_⟩) trivial ?_
            · (intro w _; go_simp)
            simp only [Act.put, List.setIfInBounds_toArray, List.set_cons_zero, List.set_cons_succ]
            refine takeHI (i := 12) (some 28) (.bool false) rfl rfl (by kernel_rfl) (by kernel_rfl) (by kernel_rfl) (fun _ _ _ h => h) (Or.inl ⟨by rfl, ?_⟩) trivial ?_
            · (intro w _; go_simp)
            simp only [Act.put, List.setIfInBounds_toArray, List.set_cons_zero, List.set_cons_succ]
            refine doneHI (by kernel_rfl) ?_ _
            have HR4 := hid (HR3.out.keep hk4)
            gi_wp2
            go_roundw
            case rel => exact ⟨pre ++ [⟨k, hlt⟩], k + 1, by go_num, by show _ = _; rw [List.map_append, HS.out, hpre.out]; rfl, by omega, HR4, hJ4⟩
            case measure => simp [intOf]; omega
          · refine ⟨_, rfl, trivial, ?_⟩
            simp only [Act.put, List.setIfInBounds_toArray, List.set_cons_zero, List.set_cons_succ]
            refine takeHI (i := 11) (some 27) (.bool true) rfl rfl (by kernel_rfl) (by kernel_rfl) (by kernel_rfl) (fun _ _ _ h => h) (Or.inl ⟨by rfl, ?_⟩) trivial ?_
            · (intro w _; go_simp)
            simp only [Act.put, List.setIfInBounds_toArray, List.set_cons_zero, List.set_cons_succ]
            refine takeHI (i := 12) (some 28) (.bool true) rfl rfl (by kernel_rfl) (by kernel_rfl) (by kernel_rfl) (fun _ _ _ h => h) (Or.inl ⟨by rfl, ?_⟩) trivial ?_
            · (intro w _; go_simp)
            simp only [Act.put, List.setIfInBounds_toArray, List.set_cons_zero, List.set_cons_succ]
            refine doneHI (by kernel_rfl) ?_ _
            gi_wp2
            refine bodyPost_ret (results_none rfl _ _ _) rfl ?_
            exact ⟨⟨_, rfl⟩, .inr ⟨pre ++ [⟨k, hlt⟩], ⟨k, hlt, HS2.out, by rw [List.map_append, hpre.out]; rfl⟩, hJx4⟩⟩
      · have hne : (((T k).st : Int) == (s : Int)) = false := by rw [int_beq, beq_eq_false_iff_ne]; exact hst
        have HS := hid (fl_no hst)
        clear hst
        generalize hgs : (T k).st = st at *
        clear hgs
        gi_wp2_with fail
        refine regionHI (S := fun _ => True) (by kernel_rfl) ?_
        refine takeHI (i := 0) (some 16) (.pointer (some ⟨b, k * 5, none⟩)) rfl rfl (by kernel_rfl) (by kernel_rfl) (by kernel_rfl) (fun _ _ _ h => h) (Or.inl ⟨by rfl, ?_⟩) trivial ?_
        · (intro w _; go_simp)
        simp only [Act.put, List.setIfInBounds_toArray, List.set_cons_zero, List.set_cons_succ]
        refine takeHI (i := 1) (some 17) (.pointer (some ⟨b, k * 5, none⟩)) rfl rfl (by kernel_rfl) (by kernel_rfl) (by kernel_rfl) (fun _ _ _ h => h) (Or.inl ⟨by rfl, ?_⟩) trivial ?_
        · (intro w _; go_simp)
        simp only [Act.put, List.setIfInBounds_toArray, List.set_cons_zero, List.set_cons_succ]
        refine takeHI (i := 2) (some 18) (.pointer (some ⟨b, k * 5 + 3, none⟩)) rfl rfl (by kernel_rfl) (by kernel_rfl) (by kernel_rfl) (fun _ _ _ h => h) (Or.inl ⟨by rfl, ?_⟩) trivial ?_
        · (intro w _; go_simp)
        simp only [Act.put, List.setIfInBounds_toArray, List.set_cons_zero, List.set_cons_succ]
        refine twoHI (i := 3) (j := 4) (by kernel_rfl) rfl rfl (by rfl) (by rfl) (wpIn_val (.int .i64 (st : Int)) (some 19) rfl (by go_simp) ⟨trivial, ?_⟩) (wpIn_val (.int .i64 (s : Int)) (some 20) rfl (by go_simp) ⟨trivial, ?_⟩)
        rotate_left
        simp only [Act.put, List.setIfInBounds_toArray, List.set_cons_zero, List.set_cons_succ]
        refine oneHI (i := 3) (by kernel_rfl) rfl (by rfl) (wpIn_val (.int .i64 (st : Int)) (some 19) rfl (by go_simp) ⟨trivial, ?_⟩)
        rotate_left
        simp only [Act.put, List.setIfInBounds_toArray, List.set_cons_zero, List.set_cons_succ]
        refine oneHI (i := 4) (by kernel_rfl) rfl (by rfl) (wpIn_val (.int .i64 (s : Int)) (some 20) rfl (by go_simp) ⟨trivial, ?_⟩)
        all_goals
          simp only [Act.put, List.setIfInBounds_toArray, List.set_cons_zero, List.set_cons_succ]
          refine takeHI (i := 5) (some 21) (.bool false) rfl rfl (by kernel_rfl) (by kernel_rfl) (by kernel_rfl) (fun _ _ _ h => h) (Or.inl ⟨by rfl, ?_⟩) trivial ?_
          · (intro w _; go_simp)
          simp only [Act.put, List.setIfInBounds_toArray, List.set_cons_zero, List.set_cons_succ]
          refine takeHI (i := 6) (some 22) (.bool false) rfl rfl (by kernel_rfl) (by kernel_rfl) (by kernel_rfl) (fun _ _ _ h => h) (Or.inl ⟨by rfl, ?_⟩) trivial ?_
          · (intro w _; go_simp)
          simp only [Act.put, List.setIfInBounds_toArray, List.set_cons_zero, List.set_cons_succ]
          refine takeHI (i := 7) (some 23) undef rfl rfl (by kernel_rfl) (by kernel_rfl) (by kernel_rfl) (fun _ _ _ h => h) (Or.inr ⟨by rfl, rfl⟩) trivial ?_
          simp only [Act.put, List.setIfInBounds_toArray, List.set_cons_zero, List.set_cons_succ]
          refine takeHI (i := 8) (some 24) undef rfl rfl (by kernel_rfl) (by kernel_rfl) (by kernel_rfl) (fun _ _ _ h => h) (Or.inr ⟨by rfl, rfl⟩) trivial ?_
          simp only [Act.put, List.setIfInBounds_toArray, List.set_cons_zero, List.set_cons_succ]
          refine takeHI (i := 9) (some 25) undef rfl rfl (by kernel_rfl) (by kernel_rfl) (by kernel_rfl) (fun _ _ _ h => h) (Or.inr ⟨by rfl, rfl⟩) trivial ?_
          simp only [Act.put, List.setIfInBounds_toArray, List.set_cons_zero, List.set_cons_succ]
          refine takeHI (i := 10) (some 26) undef rfl rfl (by kernel_rfl) (by kernel_rfl) (by kernel_rfl) (fun _ _ _ h => h) (Or.inr ⟨by rfl, rfl⟩) trivial ?_
          simp only [Act.put, List.setIfInBounds_toArray, List.set_cons_zero, List.set_cons_succ]
          refine takeHI (i := 11) (some 27) undef rfl rfl (by kernel_rfl) (by kernel_rfl) (by kernel_rfl) (fun _ _ _ h => h) (Or.inr ⟨by rfl, rfl⟩) trivial ?_
          simp only [Act.put, List.setIfInBounds_toArray, List.set_cons_zero, List.set_cons_succ]
          refine takeHI (i := 12) (some 28) (.bool false) rfl rfl (by kernel_rfl) (by kernel_rfl) (by kernel_rfl) (fun _ _ _ h => h) (Or.inl ⟨by rfl, ?_⟩) trivial ?_
          · (intro w _; go_simp)
          simp only [Act.put, List.setIfInBounds_toArray, List.set_cons_zero, List.set_cons_succ]
          refine doneHI (by kernel_rfl) ?_ _
          gi_wp2
          go_roundw
          case rel => exact ⟨pre, k + 1, by go_num, by show _ = _; rw [HS.out]; exact hpre.out, by omega, HR3, hJ3⟩
          case measure => simp [intOf]; omega
    · obtain rfl : k = 256 := by omega
      gi_wp2
      go_end0
      exact ⟨⟨_, rfl⟩, .inl ⟨pre, hpre.out, hJ⟩⟩
end Go.Proofs.Ytoahfeckadaomaa
