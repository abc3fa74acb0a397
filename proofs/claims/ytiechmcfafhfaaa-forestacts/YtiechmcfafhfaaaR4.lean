/- The document's forest: the contracts of Find and Kids. -/
import Derived.Test.YtiechmcfafhfaaaR3
namespace Go.Proofs.Ytiechmcfafhfaaa
open Go.RowKit Go.Maps Go.Shelf

section
variable {w w' : World} {r : Nat} {v : Value} {last : Nat} {L : List Nd} {e : Nd}
set_option maxRecDepth 100000 in
set_option maxHeartbeats 1000000 in
theorem rfind_any (h : Rf w r v last L) (hl : L.length ≤ 400) (a b : Int) : Calls Try.prog 25 #[ptr r, spot a b] w fun en w' => en = .returned (.int .i64 (findI L a b)) ∧ Below w.heap.size w w' := by
  obtain ⟨s, cap, rfl, _⟩ := h.row.slice
  have hA : Below w.heap.size w (w.alloc (.cells #[.int .i64 a, .int .i64 b] 44)) := (Below.refl _ w).alloc (Nat.le_refl _) _
  have HQ := hid (h.below hA (Nat.le_refl _))
  have e0 := HQ.out.c0
  have hN := heap_alloc_new w (.cells #[.int .i64 a, .int .i64 b] 44)
  have b0 : (w.alloc (.cells #[.int .i64 a, .int .i64 b] 44)).cell? ⟨w.heap.size, 0, none⟩ = some (.int .i64 a) := by rw [cell_of_row _ _ _ _ _ _ hN]; rfl
  have b1 : (w.alloc (.cells #[.int .i64 a, .int .i64 b] 44)).cell? ⟨w.heap.size, 1, none⟩ = some (.int .i64 b) := by rw [cell_of_row _ _ _ _ _ _ hN]; rfl
  obtain ⟨y, hy⟩ : ∃ y, y = findI L a b := ⟨_, rfl⟩
  rw [← hy]
  have HY := hid hy
  have HA := hid hA
  have hg := guardS
  clear h hy hA hN
  go_enter Try.func25, Try.ntmps25
  go_wp2_with fail
  generalize hW : w.alloc (.cells #[.int .i64 a, .int .i64 b] 44) = W at *
  clear hW
  go_loopw [5] (fun c wr => ∃ k : Nat, k ≤ L.length ∧ c = .int .i64 (k : Int) ∧ (∃ q, wr = W.drewN q) ∧ Hid (∀ (j : Nat) f, j < k → L[j]? = some f → (f.sp == a && f.sl == b) = false)) (fun c _ => L.length - (intOf c).toNat)
  case atStart => exact ⟨0, Nat.zero_le _, rfl, ⟨0, rfl⟩, fun j t hj => by omega⟩
  case round =>
    obtain ⟨k, hk, rfl, ⟨q, rfl⟩, hS⟩ := hrel
    by_cases hlt : k < L.length
    · have hk2 := List.getElem?_eq_getElem hlt
      obtain ⟨e, he⟩ : ∃ e, e = L[k] := ⟨_, rfl⟩
      rw [← he] at hk2
      obtain ⟨g, off, cap2, ev, c0, _, c2, c3⟩ := HQ.out.at hk2
      obtain ⟨rfl, rfl⟩ : s = some ⟨g, off, none⟩ ∧ cap = cap2 := by simpa using ev
      have c3' : W.cell? ⟨g, off + k * 4 + 2 + 1, none⟩ = some (.int .i64 e.sl) := c3
      have hk0 : (0 : Int) ≤ (k : Int) := by omega
      have hk1 : (k : Int) < (L.length : Int) := by omega
      have HLT := hid hlt
      cases hd : (e.sp == a && e.sl == b) with
      | true =>
        have hq : ∀ w, (binOp .eql 44 (spot e.sp e.sl) (spot a b)).run Try.prog w = .ok (.bool true) w := fun w => by rw [eqlS, hd]
        have HE : Hid (y = (e.id : Int)) := hid (HY.out.trans (findI_hit hk2 hd hS.out))
        clear hk2 hd hS HQ HY he hlt
        generalize ((e.id : Nat) : Int) = z at *
        go_wp2_with fail
        go_quiet (fail)
        go_wp2_with fail
        go_ret
        exact ⟨ret_int HE.out.symm, ⟨HA.out.os, HA.out.tape, HA.out.output, HA.out.size, HA.out.block⟩⟩
      | false =>
        have hq : ∀ w, (binOp .eql 44 (spot e.sp e.sl) (spot a b)).run Try.prog w = .ok (.bool false) w := fun w => by rw [eqlS, hd]
        have H3 := hid (show ∀ (j : Nat) f, j < k + 1 → L[j]? = some f → (f.sp == a && f.sl == b) = false from fun j f hj hf => by
          by_cases e1 : j = k
          · subst e1
            rw [hk2] at hf
            obtain rfl : e = f := by simpa using hf
            exact hd
          · exact hS.out j f (by omega) hf)
        clear hk2 hd hS HQ HY he hlt
        generalize ((e.id : Nat) : Int) = z at *
        go_wp2_with fail
        go_quiet (fail)
        go_wp2_with fail
        exact ⟨⟨k + 1, HLT.out, by go_num, ⟨_, rfl⟩, H3⟩, by have := HLT.out; simp [intOf]; omega⟩
    · obtain rfl : k = L.length := by omega
      have HE : Hid (y = 0) := hid (HY.out.trans (findI_miss (fun j f hf => hS.out j f (List.getElem?_eq_some_iff.1 hf).1 hf)))
      go_wp2_with fail
      go_ret
      exact ⟨ret_int HE.out.symm, ⟨HA.out.os, HA.out.tape, HA.out.output, HA.out.size, HA.out.block⟩⟩
theorem rkids_zero (h : Rf w r v last L) (hl : L.length ≤ 400) : Calls Try.prog 28 #[ptr r, .int .i64 0] w (NumPost w (kz L 0)) := by
  obtain ⟨s, cap, rfl, _⟩ := h.row.slice
  have e0 := h.c0
  clear h
  go_enter Try.func28, Try.ntmps28
  go_wp2_with fail
  go_loop [5, 6] (fun u c => u = .slice none 0 0 ∧ c = .int .i64 0) (fun _ c => 0)
  case atStart => exact ⟨rfl, rfl⟩
  case round =>
    obtain ⟨rfl, rfl⟩ := hrel
    by_cases h0 : 0 < L.length
    · go_wp2_with fail
      go_ret
      exact ⟨none, 0, rfl, OR.nil _ _ _, Below.refl _ _⟩
    · have h0' : L.length = 0 := by omega
      go_wp2_with fail
      go_ret
      exact ⟨none, 0, rfl, OR.nil _ _ _, Below.refl _ _⟩
set_option maxRecDepth 100000 in
set_option maxHeartbeats 1000000 in
theorem rkids_any (h : Rf w r v last L) (hl : L.length ≤ 400) (x : Int) : Calls Try.prog 28 #[ptr r, .int .i64 x] w (NumPost w (kz L x)) := by
  by_cases hx : x = 0
  · subst hx; exact rkids_zero h hl
  have hkz : kz L x = kzt L x := by unfold kz; rw [if_neg hx]; rfl
  rw [hkz]
  have hx1 : (x != 0) = true := by rw [bne_iff_ne]; exact hx
  obtain ⟨s, cap, rfl, _⟩ := h.row.slice
  have HQ := hid h
  clear h hx hkz
  have e0 := HQ.out.c0
  go_enter Try.func28, Try.ntmps28
  go_wp2_with fail
  clear e0
  go_loopw [5, 6] (fun u c wr => ∃ k : Nat, k ≤ L.length ∧ c = .int .i64 (k : Int) ∧ ∃ a2 cap2, u = .slice a2 (kzt (L.take k) x).length cap2 ∧ Hid (Below w.heap.size w wr ∧ OR wr w.heap.size 1 (.slice a2 (kzt (L.take k) x).length cap2) (kzt (L.take k) x).length (nums (kzt (L.take k) x)))) (fun _ c _ => L.length - (intOf c).toNat)
  case atStart => exact ⟨0, Nat.zero_le _, rfl, none, 0, rfl, Below.refl _ _, OR.nil _ _ _⟩
  case round =>
    obtain ⟨k, hk, rfl, a2, cap2, rfl, hS⟩ := hrel
    have HR := hid (HQ.out.below hS.out.1 (Nat.le_refl _))
    have e0 := HR.out.c0
    by_cases hlt : k < L.length
    · have hk2 := List.getElem?_eq_getElem hlt
      obtain ⟨e, he⟩ : ∃ e, e = L[k] := ⟨_, rfl⟩
      rw [← he] at hk2
      obtain ⟨g, off, cap3, ev, c0, c1, _, _⟩ := HR.out.at hk2
      obtain ⟨rfl, rfl⟩ : s = some ⟨g, off, none⟩ ∧ cap = cap3 := by simpa using ev
      have hk0 : (0 : Int) ≤ (k : Int) := by omega
      have hk1 : (k : Int) < (L.length : Int) := by omega
      have HLT := hid hlt
      have hst := kzt_step (x := x) hk2
      by_cases hp : (e.par : Int) = x
      · have hd : ((e.par : Int) == x) = true := by rw [beq_iff_eq]; exact hp
        rw [if_pos hp] at hst
        have hkl : (kzt (L.take k) x).length ≤ 400 := by have := kzt_len (L.take k) x; rw [List.length_take] at this; omega
        obtain ⟨a3, cap4, w3, hr, ho3, hb3, _⟩ := num_append hS.out.2 (by omega) hS.out.1.size (e.id : Int) wr.heap.size rfl
        rw [← hst] at ho3
        have e3 : (kzt (L.take (k + 1)) x).length = (kzt (L.take k) x).length + 1 := by rw [hst]; simp
        have H3 := hid (And.intro (hS.out.1.trans hb3) ho3)
        rw [e3] at H3
        have HE := hid e3
        clear hk2 hp hst hS HQ HR he hlt ho3 hb3 e3
        generalize ((e.id : Nat) : Int) = z at *
        generalize ((e.par : Nat) : Int) = zp at *
        generalize (kzt (L.take k) x).length = nk at *
        go_wp2_with (at_builtin; refine wpList_append_run rfl _ _ 34 34 rfl _ _ _ rfl rfl hr ?_)
        refine ⟨⟨k + 1, HLT.out, by go_num, a3, cap4, by rw [HE.out], by rw [HE.out]; exact H3⟩, by have := HLT.out; simp [intOf]; omega⟩
      · have hd : ((e.par : Int) == x) = false := by rw [beq_eq_false_iff_ne]; exact hp
        rw [if_neg hp, List.append_nil] at hst
        have HS := hS
        rw [← hst] at HS
        rw [← hst]
        clear hk2 hp hst hS HQ HR he hlt
        generalize ((e.id : Nat) : Int) = z at *
        generalize ((e.par : Nat) : Int) = zp at *
        go_wp2_with fail
        refine ⟨⟨k + 1, HLT.out, by go_num, a2, cap2, rfl, HS⟩, by have := HLT.out; simp [intOf]; omega⟩
    · obtain rfl : k = L.length := by omega
      rw [List.take_length] at hS ⊢
      go_wp2_with fail
      go_ret
      exact ⟨_, _, rfl, hS.out.2, hS.out.1⟩
end
end Go.Proofs.Ytiechmcfafhfaaa
