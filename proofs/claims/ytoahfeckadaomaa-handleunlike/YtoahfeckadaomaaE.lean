/- Contracts of enter, leave, Free and Age. -/
import Derived.Test.YtoahfeckadaomaaD
namespace Go.Proofs.Ytoahfeckadaomaa
open Go.RowKit

section
variable {w : World} {b : Nat} {T : Nat → Pl}
theorem Tb.enter (h : Tb w b T) {i : Nat} (hi : i < 256) (k a f : Int) : Tb ((((w.setCell ⟨b, i * 5, none⟩ (.int .i64 k)).setCell ⟨b, i * 5 + 1, none⟩ (.int .i64 a)).setCell ⟨b, i * 5 + 2, none⟩ (.int .i64 f)).setCell ⟨b, i * 5 + 3, none⟩ (.int .i64 1)) b (putT T i ⟨k, a, f⟩) := by
  have := (h.setOb hi k a f).setSt hi 1
  rw [upd_upd, upd_same] at this
  exact this
theorem but4 (i : Nat) (v0 v1 v2 v3 : Value) : But b w ((((w.setCell ⟨b, i * 5, none⟩ v0).setCell ⟨b, i * 5 + 1, none⟩ v1).setCell ⟨b, i * 5 + 2, none⟩ v2).setCell ⟨b, i * 5 + 3, none⟩ v3) :=
  ((((But.refl b w).setCell (p := ⟨b, i * 5, none⟩) (.inl rfl) _).setCell (p := ⟨b, i * 5 + 1, none⟩) (.inl rfl) _).setCell (p := ⟨b, i * 5 + 2, none⟩) (.inl rfl) _).setCell (p := ⟨b, i * 5 + 3, none⟩) (.inl rfl) _
theorem Tb.alloc (h : Tb w b T) (o : Obj) : Tb (w.alloc o) b T := h.below ((Below.refl _ w).alloc (Nat.le_refl _) _)
theorem enter_any (ht : Tb w b T) (i : Nat) (hi : i < 256) (o : Ob) : Calls Try.prog 28 #[.pointer (some ⟨b, i * 5, none⟩), obv o] w fun e w' => (∃ v, e = .returned v) ∧ Tb w' b (putT T i o) ∧ But b w w' := by
  obtain ⟨k, a, f⟩ := o
  unfold obv
  have f0 := ht.frozen (i * 5)
  have f1 := ht.frozen (i * 5 + 1)
  have f2 := ht.frozen (i * 5 + 2)
  have f3 := ht.frozen (i * 5 + 3)
  have c3 := ht.cst hi
  obtain ⟨c0, c1, c2⟩ := ht.cob hi
  have hlt := ht.lt
  have HT := hid ht
  clear ht
  generalize (T i).st = st at *
  generalize (T i).o.k = ok at *
  generalize (T i).o.a = oa at *
  generalize (T i).o.f = of at *
  go_enter Try.func28, Try.ntmps28
  go_wp2
  go_end0
  exact ⟨⟨_, rfl⟩, (HT.out.enter hi k a f).alloc _, (but4 i _ _ _ _).alloc _⟩
theorem Tb.leave (h : Tb w b T) {i : Nat} (hi : i < 256) (s : Nat) : Tb ((((w.setCell ⟨b, i * 5, none⟩ (.int .i64 0)).setCell ⟨b, i * 5 + 1, none⟩ (.int .i64 0)).setCell ⟨b, i * 5 + 2, none⟩ (.int .i64 0)).setCell ⟨b, i * 5 + 3, none⟩ (.int .i64 (s : Int))) b (upd T i ⟨noOb, s, (T i).ag⟩) := by
  have := (h.setOb hi 0 0 0).setSt hi s
  rw [upd_upd, upd_same] at this
  exact this
theorem leave_worn (ht : Tb w b T) (i : Nat) (hi : i < 256) (hm : (T i).ag = 1048575) : Calls Try.prog 32 #[.pointer (some ⟨b, i * 5, none⟩)] w (TbPost w b (obv (T i).o) (freeT T i)) := by
  have hf : freeT T i = upd T i ⟨noOb, 3, (T i).ag⟩ := by unfold freeT; rw [if_pos hm, hm]
  rw [hf]
  have f0 := ht.frozen (i * 5)
  have f1 := ht.frozen (i * 5 + 1)
  have f2 := ht.frozen (i * 5 + 2)
  have f3 := ht.frozen (i * 5 + 3)
  have f4 := ht.frozen (i * 5 + 4)
  have c3 := ht.cst hi
  have c4 := ht.cag hi
  obtain ⟨c0, c1, c2⟩ := ht.cob hi
  have hlt := ht.lt
  rw [hm] at c4
  have HT := hid (ht.leave hi 3)
  have ho : (T i).o = ⟨(T i).o.k, (T i).o.a, (T i).o.f⟩ := rfl
  rw [ho]
  clear ht hm ho hf
  generalize (T i).st = st at *
  generalize (T i).o.k = ok at *
  generalize (T i).o.a = oa at *
  generalize (T i).o.f = of at *
  go_enter Try.func32, Try.ntmps32
  go_wp2
  exact bodyPost_ret (v := obv ⟨ok, oa, of⟩) (by simp [results, Try.results32, go_sem, obv]) rfl ⟨rfl, (HT.out.alloc _).alloc _, ((but4 i _ _ _ _).alloc _).alloc _⟩
theorem leave_any (ht : Tb w b T) (i : Nat) (hi : i < 256) (hm : (T i).ag ≠ 1048575) (hl : (T i).ag ≤ 1048575) : Calls Try.prog 32 #[.pointer (some ⟨b, i * 5, none⟩)] w (TbPost w b (obv (T i).o) (freeT T i)) := by
  have hf : freeT T i = upd T i ⟨noOb, 0, (T i).ag + 1⟩ := by unfold freeT; rw [if_neg hm]
  rw [hf]
  have f0 := ht.frozen (i * 5)
  have f1 := ht.frozen (i * 5 + 1)
  have f2 := ht.frozen (i * 5 + 2)
  have f3 := ht.frozen (i * 5 + 3)
  have f4 := ht.frozen (i * 5 + 4)
  have c3 := ht.cst hi
  have c4 := ht.cag hi
  obtain ⟨c0, c1, c2⟩ := ht.cob hi
  have hlt := ht.lt
  have hd : (((T i).ag : Int) == 1048575) = false := by rw [beq_eq_false_iff_ne]; omega
  have e : upd (upd T i ⟨noOb, 0, (T i).ag⟩) i ⟨noOb, 0, (T i).ag + 1⟩ = upd T i ⟨noOb, 0, (T i).ag + 1⟩ := upd_upd _ _ _ _
  have h5 := (ht.leave hi 0).setAg hi ((T i).ag + 1)
  rw [upd_same] at h5
  rw [e] at h5
  have HT := hid h5
  have ho : (T i).o = ⟨(T i).o.k, (T i).o.a, (T i).o.f⟩ := rfl
  rw [ho]
  clear ht hm ho hf e h5
  generalize (T i).ag = ag at *
  generalize (T i).st = st at *
  generalize (T i).o.k = ok at *
  generalize (T i).o.a = oa at *
  generalize (T i).o.f = of at *
  go_enter Try.func32, Try.ntmps32
  go_wp2
  exact bodyPost_ret (v := obv ⟨ok, oa, of⟩) (by simp [results, Try.results32, go_sem, obv]) rfl ⟨rfl, (HT.out.alloc _).alloc _, (((but4 i _ _ _ _).setCell (p := ⟨b, i * 5 + 4, none⟩) (.inl rfl) _).alloc _).alloc _⟩
theorem leave_all (ht : Tb w b T) (i : Nat) (hi : i < 256) (hl : (T i).ag ≤ 1048575) : Calls Try.prog 32 #[.pointer (some ⟨b, i * 5, none⟩)] w (TbPost w b (obv (T i).o) (freeT T i)) := by
  by_cases hm : (T i).ag = 1048575
  · exact leave_worn ht i hi hm
  · exact leave_any ht i hi hm hl

theorem free_any (ht : Tb w b T) (hw : Wf T) (h : Nat) (hh : h < 4294967296) : Calls Try.prog 10 #[.pointer (some ⟨b, 0, none⟩), .int .u32 (h : Int)] w (TbPost w b (.tuple #[obv (freeA T h).1, .int .i64 (freeA T h).2.1]) (freeA T h).2.2) := by
  have hb : Below w.heap.size w ((w.alloc (.cells #[.int .i64 0, .int .i64 0, .int .i64 0] 31)).alloc (.cells #[.int .i64 2] 62)) := ((Below.refl _ w).alloc (Nat.le_refl _) _).alloc (by simp) _
  have hs : Ss ((w.alloc (.cells #[.int .i64 0, .int .i64 0, .int .i64 0] 31)).alloc (.cells #[.int .i64 2] 62)) (w.heap.size + 1) 1 (fun _ => 2) := by
    have := one_state (w.alloc (.cells #[.int .i64 0, .int .i64 0, .int .i64 0] 31)) 2
    rw [World.size_alloc] at this
    exact this
  have hi : h % 256 < 256 := Nat.mod_lt _ (by decide)
  have e1 : okB T h (fun _ => 2) 1 = isB T h 2 := okB1 T h 2
  have hz : ((w.alloc (.cells #[.int .i64 0, .int .i64 0, .int .i64 0] 31)).alloc (.cells #[.int .i64 2] 62)).heap[w.heap.size]? = some (.cells #[.int .i64 0, .int .i64 0, .int .i64 0] 31) := (Below.heap_alloc _ _ _ (by simp)).trans (heap_alloc_new _ _)
  have hbl := ht.lt
  by_cases ho : isB T h 2 = true
  · have e : freeA T h = ((T (h % 256)).o, 0, freeT T (h % 256)) := by unfold freeA; rw [if_pos ho]
    rw [e]
    have HF := hid (find_yes (ht.below hb) h hh (w.heap.size + 1) 1 1 (fun _ => 2) hs (okB_yes (e1.trans ho)).1 (okB_yes (e1.trans ho)).2)
    have HL := hid (leave_all (ht.below hb) (h % 256) hi (hw _ hi).2)
    have H0 := hid (And.intro hz hb)
    clear ht e ho hs e1 hz hb hw
    generalize freeT T (h % 256) = T' at *
    generalize (T (h % 256)).o = o at *
    obtain ⟨k, a, f⟩ := o
    generalize h % 256 = i at *
    go_enter Try.func10, Try.ntmps10
    go_wp2_with (first
      | (go_at_call 31; refine HF.out.mono ?_; rintro e w' ⟨rfl, rfl⟩)
      | (go_at_call 32; refine HL.out.mono ?_; rintro e w' ⟨rfl, hT, hB⟩; unfold obv; obtain ⟨⟨c0, c1, c2⟩, f0, f1, f2⟩ := row3 ((hB.block w.heap.size (by simp; omega) (by omega)).trans H0.out.1)))
    refine bodyPost_ret (v := .tuple #[obv ⟨k, a, f⟩, .int .i64 0]) (by simp [results, Try.results10, go_sem, obv, c0, c1, c2]) rfl ⟨rfl, ?_, ?_⟩
    · exact hT.same (by rw [Below.heap_setCell _ _ _ _ (by show b ≠ w.heap.size; omega), Below.heap_setCell _ _ _ _ (by show b ≠ w.heap.size; omega), Below.heap_setCell _ _ _ _ (by show b ≠ w.heap.size; omega)])
    · exact ((((But.of_below H0.out.2).trans hB).setCell (p := ⟨w.heap.size, 0, none⟩) (.inr (Nat.le_refl _)) _).setCell (p := ⟨w.heap.size, 1, none⟩) (.inr (Nat.le_refl _)) _).setCell (p := ⟨w.heap.size, 2, none⟩) (.inr (Nat.le_refl _)) _
  · have e : freeA T h = (noOb, 8, T) := by unfold freeA; rw [if_neg ho]
    rw [e]
    have HF := hid (find_no (ht.below hb) h hh (w.heap.size + 1) 1 1 (fun _ => 2) hs (e1.trans (by simpa using ho)))
    have HT := hid (And.intro ht.lt (And.intro (ht.below hb) hb))
    clear ht e ho hs e1 hz hb hw
    go_enter Try.func10, Try.ntmps10
    go_wp2_with (first
      | (go_at_call 31; refine HF.out.mono ?_; rintro e w' ⟨rfl, rfl⟩))
    exact bodyPost_ret (v := .tuple #[obv noOb, .int .i64 8]) (by simp [results, Try.results10, go_sem, obv, noOb]) rfl ⟨rfl, HT.out.2.1, But.of_below HT.out.2.2⟩

theorem age_bad (w : World) (b : Nat) (p a : Int) (hb : ¬ (0 ≤ p ∧ p < 256 ∧ 0 ≤ a ∧ a ≤ 1048575)) : Calls Try.prog 16 #[.pointer (some ⟨b, 0, none⟩), .int .i64 p, .int .i64 a] w fun e w' => e = .returned (.bool false) ∧ w' = w := by
  by_cases h1 : p < 0
  · go_enter Try.func16, Try.ntmps16
    go_wp2
    go_ret
    exact ⟨rfl, rfl⟩
  by_cases h2 : p < 256
  · by_cases h3 : a < 0
    · go_enter Try.func16, Try.ntmps16
      go_wp2
      go_ret
      exact ⟨rfl, rfl⟩
    · have h4 : 1048575 < a := by omega
      clear hb
      go_enter Try.func16, Try.ntmps16
      go_wp2
      go_ret
      exact ⟨rfl, rfl⟩
  · clear hb
    go_enter Try.func16, Try.ntmps16
    go_wp2
    go_ret
    exact ⟨rfl, rfl⟩
set_option maxRecDepth 100000 in
theorem age_full (ht : Tb w b T) (p : Nat) (a : Int) (hp : p < 256) (h0 : 0 ≤ a) (ha : a ≤ 1048575) (hs : (T p).st ≠ 0) : Calls Try.prog 16 #[.pointer (some ⟨b, 0, none⟩), .int .i64 (p : Int), .int .i64 a] w fun e w' => e = .returned (.bool false) ∧ w' = w := by
  have c3 := ht.cst hp
  have hd : (((T p).st : Int) != 0) = true := by rw [bne_iff_ne]; omega
  clear ht hs
  generalize (T p).st = st at *
  go_enter Try.func16, Try.ntmps16
  go_wp2
  go_ret
  exact ⟨rfl, rfl⟩
set_option maxRecDepth 100000 in
theorem age_int (p : Nat) (a ag : Int) (hp : p < 256) (h0 : 0 ≤ a) (ha : a ≤ 1048575) (c3 : w.cell? ⟨b, p * 5 + 3, none⟩ = some (.int .i64 0)) (c4 : w.cell? ⟨b, p * 5 + 4, none⟩ = some (.int .i64 ag)) (f4 : w.frozen? ⟨b, p * 5 + 4, none⟩ = false) :
    Calls Try.prog 16 #[.pointer (some ⟨b, 0, none⟩), .int .i64 (p : Int), .int .i64 a] w fun e w' => e = .returned (.bool true) ∧ w' = w.setCell ⟨b, p * 5 + 4, none⟩ (.int .i64 a) := by
  go_enter Try.func16, Try.ntmps16
  go_wp2
  go_ret
  exact ⟨rfl, rfl⟩
theorem age_ok (ht : Tb w b T) (p a : Nat) (hp : p < 256) (ha : a ≤ 1048575) (hs : (T p).st = 0) : Calls Try.prog 16 #[.pointer (some ⟨b, 0, none⟩), .int .i64 (p : Int), .int .i64 (a : Int)] w (TbPost w b (.bool true) (ageT T p a)) := by
  have c3 := ht.cst hp
  have h5 := ht.setAg hp a
  rw [hs] at c3 h5
  refine (age_int p a _ hp (by omega) (by omega) c3 (ht.cag hp) (ht.frozen _)).mono ?_
  rintro e w' ⟨rfl, rfl⟩
  exact ⟨rfl, h5, (But.refl b w).setCell (p := ⟨b, p * 5 + 4, none⟩) (.inl rfl) _⟩
end
end Go.Proofs.Ytoahfeckadaomaa
