/- The document's table: All, Room; Same. -/
import Derived.Test.YtoahfeckadaomaaR3
namespace Go.Proofs.Ytoahfeckadaomaa
open Go.RowKit Go.Maps Go.Shelf

theorem infoU : (Try.prog.info? 25).map (fun i => (i.zero, i.size, i.bytes)) = some (some (.int .u32 0), 1, 4) := by kernel_rfl
theorem ub_append {w : World} {base : Nat} {v : Value} {l : List Nat} (h : w.ownsRow base 25 1 v l.length (hds l)) (hn : l.length ≤ 256) (hb : base ≤ w.heap.size) (x : Nat) :
    ∃ g cap w', (Builtin.append_ #[47, 47] 47 #[v, .slice (some ⟨w.heap.size, 0, none⟩) 1 1]).run Try.prog (w.alloc (.cells #[.int .u32 (x : Int)] 25)) = .ok (.slice (some ⟨g, 0, none⟩) (l.length + 1) cap) w' ∧ w'.ownsRow base 25 1 (.slice (some ⟨g, 0, none⟩) (l.length + 1) cap) (l ++ [x]).length (hds (l ++ [x])) ∧ Below base w w' := by
  obtain ⟨i0, hi, hz0, hz1', hz2'⟩ := info_parts infoU
  obtain ⟨v', w', hr, ho, hg, _, _⟩ := run_append_own_at (P := Try.prog) (w := w.alloc (.cells #[.int .u32 (x : Int)] 25)) base 47 47 25 i0 (.int .u32 0) 1 4 Try.underlying47 hi hz0 hz1' hz2' rfl (by decide) v l.length (hds l) (World.ownsRow.alloc h _) ⟨w.heap.size, 0, none⟩ 1 1 [.int .u32 (x : Int)] rfl (cell_one_new _ _ _) (by simp [Value.oneCell']) (by unfold maxLen; omega) (by omega) (by simp; omega)
  obtain ⟨g, cap, rfl⟩ := ownsRow_succ ho
  refine ⟨g, cap, w', hr, ?_, ((Below.refl base w).alloc hb _).grown hg (by simp; omega) (fun k e => (own_block h k e).1)⟩
  have e : hds (l ++ [x]) = hds l ++ [.int .u32 (x : Int)] := by
    unfold hds; rw [List.map_append]; rfl
  rw [e, List.length_append]
  exact ho

/-- A row of the document's handles is answered. -/
def UsPost (w : World) (l : List Nat) (e : Ending) (w' : World) : Prop := ∃ v, e = .returned v ∧ w'.ownsRow w.heap.size 25 1 v l.length (hds l) ∧ Below w.heap.size w w'
section
variable {w w' : World} {r : Nat} {T : Nat → Pl}
set_option maxRecDepth 100000 in
set_option maxHeartbeats 1000000 in
theorem rall_any (hR : Rb w r T) (hw : Wf T) (s : Nat) : Calls Try.prog 18 #[.pointer (some ⟨r, 0, none⟩), .int .i64 (s : Int)] w (UsPost w (hs T s 256)) := by
  have HR := hid (And.intro hR hw)
  clear hR hw
  go_enter Try.func18, Try.ntmps18
  go_wp2
  go_loopw [6, 5] (fun c v wr => ∃ j : Nat, j ≤ 256 ∧ c = .int .i64 (j : Int) ∧ Hid (Below w.heap.size w wr ∧ wr.ownsRow w.heap.size 25 1 v (hs T s j).length (hds (hs T s j)))) (fun c _ _ => 256 - (intOf c).toNat)
  case atStart => exact ⟨0, Nat.zero_le _, rfl, Below.refl _ _, World.ownsRow_nil _ _ _ _⟩
  case round =>
    obtain ⟨j, hj, rfl, hS⟩ := hrel
    by_cases hlt : j < 256
    · have hRr := HR.out.1.below hS.out.1
      have c3 := hRr.cst hlt
      have c4 := hRr.cag hlt
      by_cases hst : (T j).st = s
      · have hd : (((T j).st : Int) == (s : Int)) = true := by rw [int_beq, beq_iff_eq]; exact hst
        have hx0 : hOf j (T j).ag < 268435456 := hOf_lt hlt (HR.out.2 j hlt).2
        have hag : ((T j).ag : Int) ≤ 1048575 := by have := (HR.out.2 j hlt).2; omega
        have hx : 256 * ((T j).ag : Int) + (j : Int) = ((hOf j (T j).ag : Nat) : Int) := by unfold hOf; omega
        have hnx := hs_yes (n := j) hst
        obtain ⟨x, hxx⟩ : ∃ x, x = hOf j (T j).ag := ⟨_, rfl⟩
        rw [← hxx] at hx hx0 hnx
        obtain ⟨g, cap, w4, hr, ho4, hb4⟩ := ub_append hS.out.2 (Nat.le_trans (hs_len T s j) hj) hS.out.1.size x
        rw [← hnx] at ho4
        have H4 := hid (And.intro (hS.out.1.trans hb4) ho4)
        clear hRr hst hnx hxx hb4 ho4 hS
        generalize ((T j).st : Int) = st at *
        generalize ((T j).ag : Int) = ag at *
        generalize (hs T s j).length = n at *
        go_wp2_with (at_builtin; refine wpList_append_run rfl _ _ 47 47 rfl _ _ _ rfl rfl hr ?_)
        exact ⟨⟨j + 1, by omega, by go_num, H4⟩, by simp [intOf]; omega⟩
      · have hd : (((T j).st : Int) == (s : Int)) = false := by rw [int_beq, beq_eq_false_iff_ne]; exact hst
        have hnx := hs_no (n := j) hst
        have H4 := hid (And.intro hS.out.1 hS.out.2)
        rw [← hnx] at H4
        clear hRr hst hnx hS c4
        generalize ((T j).st : Int) = st at *
        go_wp2
        exact ⟨⟨j + 1, by omega, by go_num, H4⟩, by simp [intOf]; omega⟩
    · obtain rfl : j = 256 := by omega
      go_wp2
      go_ret
      exact ⟨_, rfl, hS.out.2, hS.out.1⟩
theorem rroom_any (hR : Rb w r T) (hw : Wf T) : Calls Try.prog 25 #[.pointer (some ⟨r, 0, none⟩)] w fun e w' => e = .returned (.int .i64 (cn T 0 256 : Nat)) ∧ Below w.heap.size w w' := by
  have H := hid (show Calls Try.prog 18 #[.pointer (some ⟨r, 0, none⟩), .int .i64 0] w (UsPost w (hs T 0 256)) from rall_any hR hw 0)
  obtain ⟨n, hn⟩ : ∃ n, n = cn T 0 256 := ⟨_, rfl⟩
  rw [← hn]
  have HN := hid hn
  clear hR hw hn
  go_enter Try.func25, Try.ntmps25
  go_wp2_with (go_at_call 18; refine H.out.mono ?_; rintro e w' ⟨v, rfl, hr, hb⟩; obtain ⟨a, cap, rfl, _⟩ := row_cells hr; rw [show (hs T 0 256).length = n from HN.out.symm]; have HB := hid hb; clear hb hr)
  go_ret
  exact ⟨rfl, HB.out⟩
theorem hds_get {l : List Nat} {j : Nat} (h : j < l.length) : (hds l)[j]? = some (.int .u32 ((l[j]?.getD 0 : Nat) : Int)) := by
  unfold hds; simp [h]
set_option maxHeartbeats 1000000 in
theorem same_any {b1 b2 : Nat} {v1 v2 : Value} {l : List Nat} (h1 : w.ownsRow b1 26 1 v1 l.length (hds l)) (h2 : w.ownsRow b2 25 1 v2 l.length (hds l)) (hl : l.length ≤ 256) : Calls Try.prog 26 #[v1, v2] w fun e w' => e = .returned (.bool true) ∧ ∃ q, w' = w.drewN q := by
  obtain ⟨a1, k1, rfl, _⟩ := row_cells h1
  obtain ⟨a2, k2, rfl, _⟩ := row_cells h2
  have HR := hid (And.intro h1 h2)
  have hn0 : ((l.length : Int) != (l.length : Int)) = false := by simp
  clear h1 h2
  go_enter Try.func26, Try.ntmps26
  go_wp2
  go_loopw [5] (fun c wr => ∃ j : Nat, j ≤ l.length ∧ c = .int .i64 (j : Int) ∧ ∃ q, wr = w.drewN q) (fun c _ => l.length - (intOf c).toNat)
  case atStart => exact ⟨0, Nat.zero_le _, rfl, 0, rfl⟩
  case round =>
    obtain ⟨j, hj, rfl, q, rfl⟩ := hrel
    by_cases hlt : j < l.length
    · obtain ⟨g1, rfl, c1⟩ := row_at HR.out.1 (hds_get hlt)
      obtain ⟨g2, rfl, c2⟩ := row_at HR.out.2 (hds_get hlt)
      have hj0 : (0 : Int) ≤ (j : Int) := by omega
      have hj1 : (j : Int) < (l.length : Int) := by omega
      have hne : (((l[j]?.getD 0 : Nat) : Int) != ((l[j]?.getD 0 : Nat) : Int)) = false := by simp
      generalize l[j]?.getD 0 = x at *
      generalize l.length = n at *
      go_wp2_with fail
      go_quiet (fail)
      go_wp2_with fail
      exact ⟨⟨j + 1, by omega, by go_num, _, rfl⟩, by simp [intOf]; omega⟩
    · go_wp2
      go_ret
      exact ⟨rfl, q, rfl⟩
end
end Go.Proofs.Ytoahfeckadaomaa
