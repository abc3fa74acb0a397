/- The document's table: Put, Free. -/
import Derived.Test.YtoahfeckadaomaaR2
import Derived.Deep.Cut
namespace Go.Proofs.Ytoahfeckadaomaa
open Go.RowKit

section
variable {w w' : World} {r : Nat} {T : Nat → Pl}
theorem Rb.drew (h : Rb w r T) : Rb w.drew r T := h.same rfl
theorem But.drew' {b : Nat} {a w : World} (h : But b a w) : But b a w.drew := ⟨h.os, h.tape, h.output, h.size, h.block⟩

set_option maxRecDepth 100000 in
theorem rput_full (hR : Rb w r T) (hn : ∀ j, j < 256 → (T j).st ≠ 0) (k a f : Int) : Calls Try.prog 19 #[.pointer (some ⟨r, 0, none⟩), .agg #[.int .i64 k, .int .i64 a, .int .i64 f]] w fun e w' => e = .returned (.tuple #[.int .u32 0, .int .i64 11]) ∧ w' = w.alloc (.cells #[.int .i64 k, .int .i64 a, .int .i64 f] 31) := by
  have HR := hid (And.intro hR hn)
  have hlt := hR.lt
  clear hR hn
  go_enter Try.func19, Try.ntmps19
  go_wp2
  go_loop [6] (fun i => ∃ j : Nat, j ≤ 256 ∧ i = .int .i64 j) (fun i => 256 - (intOf i).toNat)
  case atStart => exact ⟨0, Nat.zero_le _, rfl⟩
  case round =>
    obtain ⟨j, hj, rfl⟩ := hrel
    by_cases hlt2 : j < 256
    · have c3 := HR.out.1.cst hlt2
      have hd : (((T j).st : Int) == 0) = false := by rw [beq_eq_false_iff_ne]; have := HR.out.2 j hlt2; omega
      generalize (T j).st = st at *
      go_wp2
      exact ⟨⟨j + 1, by omega, by go_num⟩, by simp [intOf]; omega⟩
    · go_wp2
      go_ret2
      exact ⟨rfl, rfl⟩
set_option maxRecDepth 100000 in
theorem rput_ok (hR : Rb w r T) (hw : Wf T) (n : Nat) (hn : First T n) (hn2 : n < 256) (k a f : Int) : Calls Try.prog 19 #[.pointer (some ⟨r, 0, none⟩), .agg #[.int .i64 k, .int .i64 a, .int .i64 f]] w (RPost w r (.tuple #[.int .u32 (hOf n (T n).ag : Nat), .int .i64 0]) (putT T n ⟨k, a, f⟩)) := by
  have HR := hid (And.intro hR hn)
  have hlt := hR.lt
  have hx0 : hOf n (T n).ag < 268435456 := hOf_lt hn2 (hw n hn2).2
  have hx : 256 * ((T n).ag : Int) + (n : Int) = ((hOf n (T n).ag : Nat) : Int) := by unfold hOf; omega
  obtain ⟨x, hxx⟩ : ∃ x, x = hOf n (T n).ag := ⟨_, rfl⟩
  rw [← hxx] at hx hx0 ⊢
  have HPT := hid (hR.put hn2 k a f)
  clear hR hn hw hxx
  go_enter Try.func19, Try.ntmps19
  go_wp2
  go_loop [6] (fun i => ∃ j : Nat, j ≤ n ∧ i = .int .i64 j) (fun i => 256 - (intOf i).toNat)
  case atStart => exact ⟨0, Nat.zero_le _, rfl⟩
  case round =>
    obtain ⟨j, hj, rfl⟩ := hrel
    by_cases hlt2 : j < n
    · have c3 := HR.out.1.cst (i := j) (by omega)
      have hd : (((T j).st : Int) == 0) = false := by rw [beq_eq_false_iff_ne]; have := HR.out.2.2.2 j hlt2; omega
      clear HPT
      generalize (T j).st = st at *
      go_wp2
      exact ⟨⟨j + 1, by omega, by go_num⟩, by simp [intOf]; omega⟩
    · obtain rfl : j = n := by omega
      have c3 := HR.out.1.cst hn2
      rw [HR.out.2.2.1 hn2] at c3
      have c4 := HR.out.1.cag hn2
      have f3 := HR.out.1.frozen (768 + j)
      have f0 := HR.out.1.frozen (j * 3)
      have f1 := HR.out.1.frozen (j * 3 + 1)
      have f2 := HR.out.1.frozen (j * 3 + 2)
      obtain ⟨v0, d0⟩ := HR.out.1.cany (j := j * 3) (by omega)
      obtain ⟨v1, d1⟩ := HR.out.1.cany (j := j * 3 + 1) (by omega)
      obtain ⟨v2, d2⟩ := HR.out.1.cany (j := j * 3 + 2) (by omega)
      have o1 : j * 3 ≠ 768 + j := by omega
      have o2 : j * 3 + 1 ≠ 768 + j := by omega
      have o3 : j * 3 + 2 ≠ 768 + j := by omega
      have o4 : 1024 + j ≠ 768 + j := by omega
      have o5 : 1024 + j ≠ j * 3 := by omega
      have o6 : 1024 + j ≠ j * 3 + 1 := by omega
      have o7 : 1024 + j ≠ j * 3 + 2 := by omega
      generalize (T j).ag = ag at *
      go_wp2
      go_region
      all_goals
        go_wp2
        go_ret2
        exact ⟨rfl, (HPT.out.alloc _).drew, ((((((But.refl r w).setCell (p := ⟨r, _, none⟩) (.inl rfl) _).setCell (p := ⟨r, _, none⟩) (.inl rfl) _).setCell (p := ⟨r, _, none⟩) (.inl rfl) _).setCell (p := ⟨r, _, none⟩) (.inl rfl) _).alloc _).drew'⟩
theorem rput_any (hR : Rb w r T) (hw : Wf T) (n : Nat) (hn : First T n) (o : Ob) : Calls Try.prog 19 #[.pointer (some ⟨r, 0, none⟩), obv o] w (RPost w r (.tuple #[.int .u32 ((putA T n o).1 : Int), .int .i64 (putA T n o).2.1]) (putA T n o).2.2) := by
  obtain ⟨k, a, f⟩ := o
  unfold obv
  by_cases h : n < 256
  · have e : putA T n ⟨k, a, f⟩ = (hOf n (T n).ag, 0, putT T n ⟨k, a, f⟩) := by unfold putA; rw [if_pos h]
    rw [e]
    exact rput_ok hR hw n hn h k a f
  · have e : putA T n ⟨k, a, f⟩ = (0, 11, T) := by unfold putA; rw [if_neg h]
    rw [e]
    refine (rput_full hR (fun j hj => hn.2.2 j (by omega)) k a f).mono ?_
    rintro e w' ⟨rfl, rfl⟩
    exact ⟨rfl, hR.alloc _, (But.refl r w).alloc _⟩

theorem rfree_steps (hR : Rb w r T) {i : Nat} (hi : i < 256) : Rb (w.setCell ⟨r, 768 + i, none⟩ (.int .i64 3)) r (upd T i ⟨noOb, 3, (T i).ag⟩) := by
  have := hR.setSt hi 3 noOb (fun h => by omega)
  exact this
theorem rfree_steps2 (hR : Rb w r T) {i : Nat} (hi : i < 256) : Rb (((w.setCell ⟨r, 768 + i, none⟩ (.int .i64 3)).setCell ⟨r, 768 + i, none⟩ (.int .i64 0)).setCell ⟨r, 1024 + i, none⟩ (.int .i64 (((T i).ag + 1 : Nat) : Int))) r (upd T i ⟨noOb, 0, (T i).ag + 1⟩) := by
  have h1 := (rfree_steps hR hi).setSt hi 0 noOb (fun h => by omega)
  rw [upd_upd, upd_same] at h1
  have h2 := h1.setAg hi ((T i).ag + 1) noOb (fun h => by rw [upd_same])
  rw [upd_upd, upd_same] at h2
  exact h2
set_option maxRecDepth 100000 in
set_option maxHeartbeats 1000000 in
theorem rfree_any (hR : Rb w r T) (hw : Wf T) (h : Nat) (hh : h < 4294967296) : Calls Try.prog 21 #[.pointer (some ⟨r, 0, none⟩), .int .u32 (h : Int)] w (RPost w r (.tuple #[obv (freeA T h).1, .int .i64 (freeA T h).2.1]) (freeA T h).2.2) := by
  have hi : h % 256 < 256 := Nat.mod_lt _ (by decide)
  have hb : Below w.heap.size w (w.alloc (.cells #[.int .i64 0, .int .i64 0, .int .i64 0] 31)) := (Below.refl _ w).alloc (Nat.le_refl _) _
  have HP := hid (place_any (hR.below hb) h hh)
  have hlt := hR.lt
  have c3 := hR.cst hi
  have c4 := hR.cag hi
  have f3 := hR.frozen (768 + h % 256)
  have f4 := hR.frozen (1024 + h % 256)
  have hag := (hw _ hi).2
  by_cases ho : isB T h 2 = true
  · obtain ⟨ha, hs⟩ := isB_yes ho
    have e : freeA T h = ((T (h % 256)).o, 0, freeT T (h % 256)) := by unfold freeA; rw [if_pos ho]
    rw [e]
    rw [place_yes ha] at HP
    obtain ⟨c0, c1, c2⟩ := hR.cob hi (.inr hs)
    rw [hs] at c3
    have o1 : h % 256 * 3 ≠ 768 + h % 256 := by omega
    have o2 : h % 256 * 3 + 1 ≠ 768 + h % 256 := by omega
    have o3 : h % 256 * 3 + 2 ≠ 768 + h % 256 := by omega
    have o4 : 1024 + h % 256 ≠ 768 + h % 256 := by omega
    have o4' : 768 + h % 256 ≠ 1024 + h % 256 := by omega
    have o5 : h % 256 * 3 ≠ 1024 + h % 256 := by omega
    have o6 : h % 256 * 3 + 1 ≠ 1024 + h % 256 := by omega
    have o7 : h % 256 * 3 + 2 ≠ 1024 + h % 256 := by omega
    by_cases hm : (T (h % 256)).ag = 1048575
    · have hf : freeT T (h % 256) = upd T (h % 256) ⟨noOb, 3, (T (h % 256)).ag⟩ := by unfold freeT; rw [if_pos hm, hm]
      rw [hf]
      have HS := hid (rfree_steps hR hi)
      rw [hm] at c4
      clear hR e ho ha hs hb hf hag hw hm
      generalize (T (h % 256)).o = o at *
      obtain ⟨k, a, f⟩ := o
      dsimp only at c0 c1 c2
      generalize upd T (h % 256) ⟨noOb, 3, (T (h % 256)).ag⟩ = T' at *
      generalize h % 256 = i at *
      go_enter Try.func21, Try.ntmps21
      go_wp2_with (go_at_call 34; refine HP.out.mono ?_; rintro e w' ⟨rfl, rfl⟩)
      refine bodyPost_ret (v := .tuple #[obv ⟨k, a, f⟩, .int .i64 0]) (by simp [results, Try.results21, go_sem, obv]) rfl ⟨rfl, ?_, ?_⟩
      · exact HS.out.alloc _
      · exact ((But.refl r w).setCell (p := ⟨r, _, none⟩) (.inl rfl) _).alloc _
    · have hf : freeT T (h % 256) = upd T (h % 256) ⟨noOb, 0, (T (h % 256)).ag + 1⟩ := by unfold freeT; rw [if_neg hm]
      rw [hf]
      have hs2 := rfree_steps2 hR hi
      rw [show (((T (h % 256)).ag + 1 : Nat) : Int) = ((T (h % 256)).ag : Int) + 1 by omega] at hs2
      have HS := hid hs2
      have hml : ((T (h % 256)).ag : Int) < 1048575 := by omega
      have hm0 : 0 ≤ ((T (h % 256)).ag : Int) := by omega
      clear hR e ho ha hs hb hf hag hw hm hs2
      generalize (T (h % 256)).o = o at *
      obtain ⟨k, a, f⟩ := o
      dsimp only at c0 c1 c2
      generalize upd T (h % 256) ⟨noOb, 0, (T (h % 256)).ag + 1⟩ = T' at *
      generalize ((T (h % 256)).ag : Int) = ag at *
      generalize h % 256 = i at *
      go_enter Try.func21, Try.ntmps21
      go_wp2_with (go_at_call 34; refine HP.out.mono ?_; rintro e w' ⟨rfl, rfl⟩)
      go_region
      all_goals
        go_wp2
        refine bodyPost_ret (v := .tuple #[obv ⟨k, a, f⟩, .int .i64 0]) (by simp [results, Try.results21, go_sem, obv]) rfl ⟨rfl, ?_, ?_⟩
        · exact (HS.out.alloc _).drew
        · exact (((((But.refl r w).setCell (p := ⟨r, 768 + i, none⟩) (.inl rfl) _).setCell (p := ⟨r, 768 + i, none⟩) (.inl rfl) _).setCell (p := ⟨r, 1024 + i, none⟩) (.inl rfl) _).alloc _).drew'
  · have e : freeA T h = (noOb, 8, T) := by unfold freeA; rw [if_neg ho]
    rw [e]
    have HT := hid hR
    rcases isB_no (by simpa using ho) with ha | ⟨ha, hs⟩
    · rw [place_no ha] at HP
      clear hR e ho ha hb hag hw
      go_enter Try.func21, Try.ntmps21
      go_wp2_with (go_at_call 34; refine HP.out.mono ?_; rintro e w' ⟨rfl, rfl⟩)
      exact bodyPost_ret (v := .tuple #[obv noOb, .int .i64 8]) (by simp [results, Try.results21, go_sem, obv, noOb]) rfl ⟨rfl, HT.out.alloc _, (But.refl r w).alloc _⟩
    · rw [place_yes ha] at HP
      have hd : (((T (h % 256)).st : Int) != 2) = true := by rw [bne_iff_ne]; omega
      clear hR e ho ha hb hs hag hw
      generalize (T (h % 256)).st = st at *
      generalize (T (h % 256)).ag = ag at *
      generalize h % 256 = i at *
      go_enter Try.func21, Try.ntmps21
      go_wp2_with (go_at_call 34; refine HP.out.mono ?_; rintro e w' ⟨rfl, rfl⟩)
      exact bodyPost_ret (v := .tuple #[obv noOb, .int .i64 8]) (by simp [results, Try.results21, go_sem, obv, noOb]) rfl ⟨rfl, HT.out.alloc _, (But.refl r w).alloc _⟩
end
end Go.Proofs.Ytoahfeckadaomaa
