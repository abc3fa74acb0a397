/- The document's table: Get, Peek, Kill, Free, SetAge. -/
import Derived.Test.YtoahfeckadaomaaR
namespace Go.Proofs.Ytoahfeckadaomaa
open Go.RowKit

theorem place_yes {T : Nat → Pl} {h : Nat} (ha : (T (h % 256)).ag = h / 256) : placeA T h = ((h % 256 : Nat) : Int) := by unfold placeA; rw [if_pos ha]
theorem place_no {T : Nat → Pl} {h : Nat} (ha : ¬ (T (h % 256)).ag = h / 256) : placeA T h = -1 := by unfold placeA; rw [if_neg ha]
theorem isB_no {T : Nat → Pl} {h s : Nat} (ho : isB T h s = false) : ¬ (T (h % 256)).ag = h / 256 ∨ (T (h % 256)).ag = h / 256 ∧ (T (h % 256)).st ≠ s := by
  by_cases ha : (T (h % 256)).ag = h / 256
  · refine .inr ⟨ha, fun e => ?_⟩
    unfold isB at ho
    rw [ha, e] at ho
    simp at ho
  · exact .inl ha
theorem isB_yes {T : Nat → Pl} {h s : Nat} (ho : isB T h s = true) : (T (h % 256)).ag = h / 256 ∧ (T (h % 256)).st = s := by
  unfold isB at ho
  rw [Bool.and_eq_true, beq_iff_eq, beq_iff_eq] at ho
  exact ho
theorem pkB_yes {T : Nat → Pl} {h : Nat} (ho : pkB T h = true) : (T (h % 256)).ag = h / 256 ∧ ((T (h % 256)).st = 1 ∨ (T (h % 256)).st = 2) := by
  unfold pkB at ho
  rw [Bool.and_eq_true, beq_iff_eq, Bool.or_eq_true, beq_iff_eq, beq_iff_eq] at ho
  exact ho
theorem pkB_no {T : Nat → Pl} {h : Nat} (ho : pkB T h = false) : ¬ (T (h % 256)).ag = h / 256 ∨ (T (h % 256)).ag = h / 256 ∧ (T (h % 256)).st ≠ 1 ∧ (T (h % 256)).st ≠ 2 := by
  by_cases ha : (T (h % 256)).ag = h / 256
  · refine .inr ⟨ha, ?_, ?_⟩ <;>
    · intro e
      unfold pkB at ho
      rw [ha, e] at ho
      simp at ho
  · exact .inl ha

section
variable {w w' : World} {r : Nat} {T : Nat → Pl}
set_option maxRecDepth 100000 in
theorem rget_any (hR : Rb w r T) (h : Nat) (hh : h < 4294967296) : Calls Try.prog 23 #[.pointer (some ⟨r, 0, none⟩), .int .u32 (h : Int)] w (ObPost w (getA T h).1 (getA T h).2) := by
  have hi : h % 256 < 256 := Nat.mod_lt _ (by decide)
  have hb : Below w.heap.size w (w.alloc (.cells #[.int .i64 0, .int .i64 0, .int .i64 0] 31)) := (Below.refl _ w).alloc (Nat.le_refl _) _
  have HP := hid (place_any (hR.below hb) h hh)
  have hlt := hR.lt
  have c3 := hR.cst hi
  by_cases ho : isB T h 1 = true
  · obtain ⟨ha, hs⟩ := isB_yes ho
    have e : getA T h = ((T (h % 256)).o, 0) := by unfold getA; rw [if_pos ho]
    rw [e]
    rw [place_yes ha] at HP
    obtain ⟨c0, c1, c2⟩ := hR.cob hi (.inl hs)
    rw [hs] at c3
    have HB := hid hb
    clear hR e ho ha hs hb
    generalize (T (h % 256)).o = o at *
    obtain ⟨k, a, f⟩ := o
    dsimp only at c0 c1 c2
    generalize h % 256 = i at *
    go_enter Try.func23, Try.ntmps23
    go_wp2_with (go_at_call 34; refine HP.out.mono ?_; rintro e w' ⟨rfl, rfl⟩)
    exact bodyPost_ret (v := .tuple #[obv ⟨k, a, f⟩, .int .i64 0]) (by simp [results, Try.results23, go_sem, obv]) rfl ⟨rfl, (Below.refl _ w).alloc (Nat.le_refl _) _⟩
  · have e : getA T h = (noOb, 8) := by unfold getA; rw [if_neg ho]
    rw [e]
    rcases isB_no (by simpa using ho) with ha | ⟨ha, hs⟩
    · rw [place_no ha] at HP
      clear hR e ho ha hb
      go_enter Try.func23, Try.ntmps23
      go_wp2_with (go_at_call 34; refine HP.out.mono ?_; rintro e w' ⟨rfl, rfl⟩)
      exact bodyPost_ret (v := .tuple #[obv noOb, .int .i64 8]) (by simp [results, Try.results23, go_sem, obv, noOb]) rfl ⟨rfl, (Below.refl _ w).alloc (Nat.le_refl _) _⟩
    · rw [place_yes ha] at HP
      have hd : (((T (h % 256)).st : Int) != 1) = true := by rw [bne_iff_ne]; omega
      clear hR e ho ha hb hs
      generalize (T (h % 256)).st = st at *
      generalize h % 256 = i at *
      go_enter Try.func23, Try.ntmps23
      go_wp2_with (go_at_call 34; refine HP.out.mono ?_; rintro e w' ⟨rfl, rfl⟩)
      exact bodyPost_ret (v := .tuple #[obv noOb, .int .i64 8]) (by simp [results, Try.results23, go_sem, obv, noOb]) rfl ⟨rfl, (Below.refl _ w).alloc (Nat.le_refl _) _⟩
set_option maxRecDepth 100000 in
theorem rpeek_any (hR : Rb w r T) (h : Nat) (hh : h < 4294967296) : Calls Try.prog 24 #[.pointer (some ⟨r, 0, none⟩), .int .u32 (h : Int)] w (ObPost w (peekA T h).1 (peekA T h).2) := by
  have hi : h % 256 < 256 := Nat.mod_lt _ (by decide)
  have hb : Below w.heap.size w (w.alloc (.cells #[.int .i64 0, .int .i64 0, .int .i64 0] 31)) := (Below.refl _ w).alloc (Nat.le_refl _) _
  have HP := hid (place_any (hR.below hb) h hh)
  have hlt := hR.lt
  have c3 := hR.cst hi
  by_cases ho : pkB T h = true
  · obtain ⟨ha, hs⟩ := pkB_yes ho
    have e : peekA T h = ((T (h % 256)).o, 0) := by unfold peekA; rw [if_pos ho]
    rw [e]
    rw [place_yes ha] at HP
    obtain ⟨c0, c1, c2⟩ := hR.cob hi hs
    rcases hs with hs | hs
    all_goals
      rw [hs] at c3
      have HB := hid hb
      clear hR e ho ha hs hb
      generalize (T (h % 256)).o = o at *
      obtain ⟨k, a, f⟩ := o
      dsimp only at c0 c1 c2
      generalize h % 256 = i at *
      go_enter Try.func24, Try.ntmps24
      go_wp2_with (go_at_call 34; refine HP.out.mono ?_; rintro e w' ⟨rfl, rfl⟩)
      exact bodyPost_ret (v := .tuple #[obv ⟨k, a, f⟩, .int .i64 0]) (by simp [results, Try.results24, go_sem, obv]) rfl ⟨rfl, (Below.refl _ w).alloc (Nat.le_refl _) _⟩
  · have e : peekA T h = (noOb, 8) := by unfold peekA; rw [if_neg ho]
    rw [e]
    rcases pkB_no (by simpa using ho) with ha | ⟨ha, hs1, hs2⟩
    · rw [place_no ha] at HP
      clear hR e ho ha hb
      go_enter Try.func24, Try.ntmps24
      go_wp2_with (go_at_call 34; refine HP.out.mono ?_; rintro e w' ⟨rfl, rfl⟩)
      exact bodyPost_ret (v := .tuple #[obv noOb, .int .i64 8]) (by simp [results, Try.results24, go_sem, obv, noOb]) rfl ⟨rfl, (Below.refl _ w).alloc (Nat.le_refl _) _⟩
    · rw [place_yes ha] at HP
      have hd : (((T (h % 256)).st : Int) != 1) = true := by rw [bne_iff_ne]; omega
      have hd2 : (((T (h % 256)).st : Int) != 2) = true := by rw [bne_iff_ne]; omega
      clear hR e ho ha hb hs1 hs2
      generalize (T (h % 256)).st = st at *
      generalize h % 256 = i at *
      go_enter Try.func24, Try.ntmps24
      go_wp2_with (go_at_call 34; refine HP.out.mono ?_; rintro e w' ⟨rfl, rfl⟩)
      exact bodyPost_ret (v := .tuple #[obv noOb, .int .i64 8]) (by simp [results, Try.results24, go_sem, obv, noOb]) rfl ⟨rfl, (Below.refl _ w).alloc (Nat.le_refl _) _⟩

/-- What turns the document's table. -/
def RPost (w : World) (r : Nat) (v : Value) (T' : Nat → Pl) (e : Ending) (w' : World) : Prop := e = .returned v ∧ Rb w' r T' ∧ But r w w'
set_option maxRecDepth 100000 in
theorem rkill_any (hR : Rb w r T) (h : Nat) (hh : h < 4294967296) : Calls Try.prog 20 #[.pointer (some ⟨r, 0, none⟩), .int .u32 (h : Int)] w (RPost w r (.int .i64 (killA T h).1) (killA T h).2) := by
  have hi : h % 256 < 256 := Nat.mod_lt _ (by decide)
  have HP := hid (place_any hR h hh)
  have c3 := hR.cst hi
  have f3 := hR.frozen (768 + h % 256)
  by_cases ho : isB T h 1 = true
  · obtain ⟨ha, hs⟩ := isB_yes ho
    have e : killA T h = (0, killT T (h % 256)) := by unfold killA; rw [if_pos ho]
    rw [e]
    rw [place_yes ha] at HP
    have HT := hid (hR.setSt hi 2 (T (h % 256)).o (fun _ => ⟨rfl, .inl hs⟩))
    rw [hs] at c3
    have ek : upd T (h % 256) ⟨(T (h % 256)).o, 2, (T (h % 256)).ag⟩ = killT T (h % 256) := rfl
    rw [ek] at HT
    clear hR e ho ha hs ek
    generalize killT T (h % 256) = T' at *
    generalize h % 256 = i at *
    go_enter Try.func20, Try.ntmps20
    go_wp2_with (go_at_call 34; refine HP.out.mono ?_; rintro e w' ⟨rfl, rfl⟩)
    go_ret
    exact ⟨rfl, HT.out, (But.refl r _).setCell (p := ⟨r, _, none⟩) (.inl rfl) _⟩
  · have e : killA T h = (8, T) := by unfold killA; rw [if_neg ho]
    rw [e]
    have HT := hid hR
    rcases isB_no (by simpa using ho) with ha | ⟨ha, hs⟩
    · rw [place_no ha] at HP
      clear hR e ho ha
      go_enter Try.func20, Try.ntmps20
      go_wp2_with (go_at_call 34; refine HP.out.mono ?_; rintro e w' ⟨rfl, rfl⟩)
      go_ret
      exact ⟨rfl, HT.out, But.refl r _⟩
    · rw [place_yes ha] at HP
      have hd : (((T (h % 256)).st : Int) != 1) = true := by rw [bne_iff_ne]; omega
      clear hR e ho ha hs
      generalize (T (h % 256)).st = st at *
      generalize h % 256 = i at *
      go_enter Try.func20, Try.ntmps20
      go_wp2_with (go_at_call 34; refine HP.out.mono ?_; rintro e w' ⟨rfl, rfl⟩)
      go_ret
      exact ⟨rfl, HT.out, But.refl r _⟩

set_option maxRecDepth 100000 in
theorem rage_bad (w : World) (r : Nat) (p a : Int) (hb : ¬ (0 ≤ p ∧ p < 256 ∧ 0 ≤ a ∧ a ≤ 1048575)) : Calls Try.prog 22 #[.pointer (some ⟨r, 0, none⟩), .int .i64 p, .int .i64 a] w fun e w' => e = .returned (.bool false) ∧ w' = w := by
  by_cases h1 : p < 0
  · go_enter Try.func22, Try.ntmps22
    go_wp2
    go_ret
    exact ⟨rfl, rfl⟩
  by_cases h2 : 255 < p
  · go_enter Try.func22, Try.ntmps22
    go_wp2
    go_ret
    exact ⟨rfl, rfl⟩
  by_cases h3 : a < 0
  · go_enter Try.func22, Try.ntmps22
    go_wp2
    go_ret
    exact ⟨rfl, rfl⟩
  have h4 : 1048575 < a := by omega
  clear hb
  go_enter Try.func22, Try.ntmps22
  go_wp2
  go_ret
  exact ⟨rfl, rfl⟩
set_option maxRecDepth 100000 in
theorem rage_full (hR : Rb w r T) (p : Nat) (a : Int) (hp : p < 256) (h0 : 0 ≤ a) (ha : a ≤ 1048575) (hs : (T p).st ≠ 0) : Calls Try.prog 22 #[.pointer (some ⟨r, 0, none⟩), .int .i64 (p : Int), .int .i64 a] w fun e w' => e = .returned (.bool false) ∧ w' = w := by
  have c3 := hR.cst hp
  have hd : (((T p).st : Int) != 0) = true := by rw [bne_iff_ne]; omega
  have hp' : (p : Int) < 256 := by omega
  clear hR hs
  generalize (T p).st = st at *
  go_enter Try.func22, Try.ntmps22
  go_wp2
  go_ret
  exact ⟨rfl, rfl⟩
set_option maxRecDepth 100000 in
theorem rage_int (p : Nat) (a ag : Int) (hp : p < 256) (h0 : 0 ≤ a) (ha : a ≤ 1048575) (c3 : w.cell? ⟨r, 768 + p, none⟩ = some (.int .i64 0)) (c4 : w.cell? ⟨r, 1024 + p, none⟩ = some (.int .i64 ag)) (f4 : w.frozen? ⟨r, 1024 + p, none⟩ = false) :
    Calls Try.prog 22 #[.pointer (some ⟨r, 0, none⟩), .int .i64 (p : Int), .int .i64 a] w fun e w' => e = .returned (.bool true) ∧ w' = w.setCell ⟨r, 1024 + p, none⟩ (.int .i64 a) := by
  have hp' : (p : Int) < 256 := by omega
  go_enter Try.func22, Try.ntmps22
  go_wp2
  go_ret
  exact ⟨rfl, rfl⟩
theorem rage_ok (hR : Rb w r T) (p a : Nat) (hp : p < 256) (ha : a ≤ 1048575) (hs : (T p).st = 0) : Calls Try.prog 22 #[.pointer (some ⟨r, 0, none⟩), .int .i64 (p : Int), .int .i64 (a : Int)] w (RPost w r (.bool true) (ageT T p a)) := by
  have c3 := hR.cst hp
  have h5 := hR.setAg hp a (T p).o (fun _ => rfl)
  rw [hs] at c3 h5
  refine (rage_int p a _ hp (by omega) (by omega) c3 (hR.cag hp) (hR.frozen _)).mono ?_
  rintro e w' ⟨rfl, rfl⟩
  exact ⟨rfl, h5, (But.refl r w).setCell (p := ⟨r, 1024 + p, none⟩) (.inl rfl) _⟩
end
end Go.Proofs.Ytoahfeckadaomaa
