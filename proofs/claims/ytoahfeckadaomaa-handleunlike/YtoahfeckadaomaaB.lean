/- Contracts of find, object, Get, Peek, Kill, Free, Age and New. -/
import Derived.Test.YtoahfeckadaomaaA
namespace Go.Proofs.Ytoahfeckadaomaa
open Go.RowKit

theorem find_nil (h : Nat) (v : Value) (w : World) : Calls Try.prog 31 #[.pointer none, .int .u32 (h : Int), v] w fun e w' => e = .returned (.tuple #[.pointer none, .int .i64 1]) ∧ w' = w := by
  go_enter Try.func31, Try.ntmps31
  go_wp2
  go_ret2
  exact ⟨rfl, rfl⟩

section
variable {w : World} {b : Nat} {T : Nat → Pl}
/-- The states that are asked for, in a row of their own. -/
structure Ss (w : World) (g m : Nat) (f : Nat → Int) : Prop where
  few : m ≤ 2
  lt : g < w.heap.size
  c : ∀ k, k < m → w.cell? ⟨g, k, none⟩ = some (.int .i64 (f k))

theorem Ss.below {w' : World} {g m : Nat} {f : Nat → Int} (h : Ss w g m f) (hb : Below w.heap.size w w') : Ss w' g m f :=
  ⟨h.few, Nat.lt_of_lt_of_le h.lt hb.size, fun k hk => (hb.cell (p := ⟨g, k, none⟩) h.lt).trans (h.c k hk)⟩
theorem find_yes (ht : Tb w b T) (h : Nat) (hh : h < 4294967296) (g n cap : Nat) (f : Nat → Int) (hs : Ss w g n f) (ha : (T (h % 256)).ag = h / 256) (hf : among f n ((T (h % 256)).st : Int) = true) :
    Calls Try.prog 31 #[.pointer (some ⟨b, 0, none⟩), .int .u32 (h : Int), .slice (some ⟨g, 0, none⟩) n cap] w fun e w' => e = .returned (.tuple #[.pointer (some ⟨b, h % 256 * 5, none⟩), .int .i64 0]) ∧ w' = w := by
  have hi : h % 256 < 256 := Nat.mod_lt _ (by decide)
  have HA := hid (apart_any h hh w)
  have c3 := ht.cst hi
  have c4 := ht.cag hi
  rw [ha] at c4
  have HC := hid (contains_any g n cap f ((T (h % 256)).st : Int) w hs.few hs.c)
  rw [hf] at HC
  clear ht hs ha hf
  generalize (T (h % 256)).st = s at *
  generalize h % 256 = i at *
  generalize h / 256 = a at *
  go_enter Try.func31, Try.ntmps31
  go_wp2_with (first | (go_at_call 36; refine HA.out.mono ?_; rintro e w' ⟨rfl, rfl⟩) | (go_at_call 37; refine HC.out.mono ?_; rintro e w' ⟨rfl, rfl⟩))
  go_ret2
  exact ⟨rfl, rfl⟩
theorem find_age (ht : Tb w b T) (h : Nat) (hh : h < 4294967296) (v : Value) (ha : (T (h % 256)).ag ≠ h / 256) :
    Calls Try.prog 31 #[.pointer (some ⟨b, 0, none⟩), .int .u32 (h : Int), v] w fun e w' => e = .returned (.tuple #[.pointer none, .int .i64 8]) ∧ w' = w := by
  have hi : h % 256 < 256 := Nat.mod_lt _ (by decide)
  have HA := hid (apart_any h hh w)
  have c4 := ht.cag hi
  have hne : (((T (h % 256)).ag : Int) != ((h / 256 : Nat) : Int)) = true := by rw [bne_iff_ne]; omega
  clear ht ha
  generalize (T (h % 256)).ag = s at *
  generalize h % 256 = i at *
  generalize h / 256 = a at *
  go_enter Try.func31, Try.ntmps31
  go_wp2_with (go_at_call 36; refine HA.out.mono ?_; rintro e w' ⟨rfl, rfl⟩)
  go_ret2
  exact ⟨rfl, rfl⟩
theorem find_state (ht : Tb w b T) (h : Nat) (hh : h < 4294967296) (g n cap : Nat) (f : Nat → Int) (hs : Ss w g n f) (ha : (T (h % 256)).ag = h / 256) (hf : among f n ((T (h % 256)).st : Int) = false) :
    Calls Try.prog 31 #[.pointer (some ⟨b, 0, none⟩), .int .u32 (h : Int), .slice (some ⟨g, 0, none⟩) n cap] w fun e w' => e = .returned (.tuple #[.pointer none, .int .i64 8]) ∧ w' = w := by
  have hi : h % 256 < 256 := Nat.mod_lt _ (by decide)
  have HA := hid (apart_any h hh w)
  have c3 := ht.cst hi
  have c4 := ht.cag hi
  rw [ha] at c4
  have HC := hid (contains_any g n cap f ((T (h % 256)).st : Int) w hs.few hs.c)
  rw [hf] at HC
  clear ht hs ha hf
  generalize (T (h % 256)).st = s at *
  generalize h % 256 = i at *
  generalize h / 256 = a at *
  go_enter Try.func31, Try.ntmps31
  go_wp2_with (first | (go_at_call 36; refine HA.out.mono ?_; rintro e w' ⟨rfl, rfl⟩) | (go_at_call 37; refine HC.out.mono ?_; rintro e w' ⟨rfl, rfl⟩))
  go_ret2
  exact ⟨rfl, rfl⟩
/-- Whether a handle's place is so. -/
def okB (T : Nat → Pl) (h : Nat) (f : Nat → Int) (n : Nat) : Bool := ((T (h % 256)).ag == h / 256) && among f n ((T (h % 256)).st : Int)
theorem find_no (ht : Tb w b T) (h : Nat) (hh : h < 4294967296) (g n cap : Nat) (f : Nat → Int) (hs : Ss w g n f) (ho : okB T h f n = false) :
    Calls Try.prog 31 #[.pointer (some ⟨b, 0, none⟩), .int .u32 (h : Int), .slice (some ⟨g, 0, none⟩) n cap] w fun e w' => e = .returned (.tuple #[.pointer none, .int .i64 8]) ∧ w' = w := by
  by_cases ha : (T (h % 256)).ag = h / 256
  · refine find_state ht h hh g n cap f hs ha ?_
    unfold okB at ho
    rw [ha] at ho
    simpa using ho
  · exact find_age ht h hh _ ha
theorem okB_yes {T : Nat → Pl} {h : Nat} {f : Nat → Int} {n : Nat} (ho : okB T h f n = true) : (T (h % 256)).ag = h / 256 ∧ among f n ((T (h % 256)).st : Int) = true := by
  unfold okB at ho
  rw [Bool.and_eq_true, beq_iff_eq] at ho
  exact ho

def obv (o : Ob) : Value := .agg #[.int .i64 o.k, .int .i64 o.a, .int .i64 o.f]
/-- What is answered by an object and an error's number, where nothing that was there turns. -/
def ObPost (w : World) (o : Ob) (er : Int) (e : Ending) (w' : World) : Prop := e = .returned (.tuple #[obv o, .int .i64 er]) ∧ Below w.heap.size w w'
theorem obj_nil (h : Nat) (v : Value) (w : World) : Calls Try.prog 30 #[.pointer none, .int .u32 (h : Int), v] w (ObPost w noOb 1) := by
  go_enter Try.func30, Try.ntmps30
  go_wp2_with (go_at_call 31; refine (find_nil _ _ _).mono ?_; rintro e w' ⟨rfl, rfl⟩)
  exact bodyPost_ret (v := .tuple #[obv noOb, .int .i64 1]) (by simp [results, Try.results30, go_sem, obv, noOb]) rfl ⟨rfl, (Below.refl _ w).alloc (Nat.le_refl _) _⟩
theorem obj_no (ht : Tb w b T) (h : Nat) (hh : h < 4294967296) (g n cap : Nat) (f : Nat → Int) (hs : Ss w g n f) (ho : okB T h f n = false) :
    Calls Try.prog 30 #[.pointer (some ⟨b, 0, none⟩), .int .u32 (h : Int), .slice (some ⟨g, 0, none⟩) n cap] w (ObPost w noOb 8) := by
  have HF := hid (fun wx (hx : Below w.heap.size w wx) => find_no (ht.below hx) h hh g n cap f (hs.below hx) ho)
  have hx : Below w.heap.size w (w.alloc (.cells #[.int .i64 0, .int .i64 0, .int .i64 0] 31)) := (Below.refl _ w).alloc (Nat.le_refl _) _
  clear ht hs ho
  go_enter Try.func30, Try.ntmps30
  go_wp2_with (go_at_call 31; refine (HF.out _ hx).mono ?_; rintro e w' ⟨rfl, rfl⟩)
  exact bodyPost_ret (v := .tuple #[obv noOb, .int .i64 8]) (by simp [results, Try.results30, go_sem, obv, noOb]) rfl ⟨rfl, (Below.refl _ w).alloc (Nat.le_refl _) _⟩
theorem obj_yes (ht : Tb w b T) (h : Nat) (hh : h < 4294967296) (g n cap : Nat) (f : Nat → Int) (hs : Ss w g n f) (ho : okB T h f n = true) :
    Calls Try.prog 30 #[.pointer (some ⟨b, 0, none⟩), .int .u32 (h : Int), .slice (some ⟨g, 0, none⟩) n cap] w (ObPost w (T (h % 256)).o 0) := by
  have HF := hid (fun wx (hx : Below w.heap.size w wx) => find_yes (ht.below hx) h hh g n cap f (hs.below hx) (okB_yes ho).1 (okB_yes ho).2)
  have hx : Below w.heap.size w (w.alloc (.cells #[.int .i64 0, .int .i64 0, .int .i64 0] 31)) := (Below.refl _ w).alloc (Nat.le_refl _) _
  have hi : h % 256 < 256 := Nat.mod_lt _ (by decide)
  obtain ⟨c0, c1, c2⟩ := (ht.below hx).cob hi
  clear ht hs ho
  generalize (T (h % 256)).o = o at *
  obtain ⟨k, a, fc⟩ := o
  dsimp only at c0 c1 c2
  generalize h % 256 = i at *
  go_enter Try.func30, Try.ntmps30
  go_wp2_with (go_at_call 31; refine (HF.out _ hx).mono ?_; rintro e w' ⟨rfl, rfl⟩)
  exact bodyPost_ret (v := .tuple #[obv ⟨k, a, fc⟩, .int .i64 0]) (by simp [results, Try.results30, go_sem, obv]) rfl ⟨rfl, (Below.refl _ w).alloc (Nat.le_refl _) _⟩
end
end Go.Proofs.Ytoahfeckadaomaa
