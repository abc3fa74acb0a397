/- Contracts of Peek, Kill, Free and Age. -/
import Derived.Test.YtoahfeckadaomaaC
namespace Go.Proofs.Ytoahfeckadaomaa
open Go.RowKit

section
variable {w : World} {b : Nat} {T : Nat → Pl}
theorem peek_any (ht : Tb w b T) (h : Nat) (hh : h < 4294967296) : Calls Try.prog 11 #[.pointer (some ⟨b, 0, none⟩), .int .u32 (h : Int)] w (ObPost w (peekA T h).1 (peekA T h).2) := by
  have e1 : (peekA T h).1 = if okB T h pf 2 = true then (T (h % 256)).o else noOb := by
    unfold peekA; rw [okB2 T h]; split <;> rfl
  have e2 : (peekA T h).2 = if okB T h pf 2 = true then 0 else 8 := by
    unfold peekA; rw [okB2 T h]; split <;> rfl
  rw [e1, e2]
  clear e1 e2
  have hb : Below w.heap.size w ((w.alloc (.cells #[.int .i64 0, .int .i64 0, .int .i64 0] 31)).alloc (.cells #[.int .i64 1, .int .i64 2] 62)) := ((Below.refl _ w).alloc (Nat.le_refl _) _).alloc (by simp) _
  have HO := hid (obj_any (ht.below hb) h hh (w.heap.size + 1) 2 2 pf ⟨by decide, by simp, fun k hk => by
    have := new_row (w := w.alloc (.cells #[.int .i64 0, .int .i64 0, .int .i64 0] 31)) #[.int .i64 1, .int .i64 2] 62 k
    rw [World.size_alloc] at this
    rw [this]
    rcases (show k = 0 ∨ k = 1 by omega) with rfl | rfl <;> rfl⟩)
  have hz : ((w.alloc (.cells #[.int .i64 0, .int .i64 0, .int .i64 0] 31)).alloc (.cells #[.int .i64 1, .int .i64 2] 62)).heap[w.heap.size]? = some (.cells #[.int .i64 0, .int .i64 0, .int .i64 0] 31) := (Below.heap_alloc _ _ _ (by simp)).trans (heap_alloc_new _ _)
  have H0 := hid (And.intro hz hb)
  clear hz hb ht
  generalize (if okB T h pf 2 = true then (T (h % 256)).o else noOb) = o at *
  generalize (if okB T h pf 2 = true then (0 : Int) else 8) = er at *
  obtain ⟨k, a, f⟩ := o
  go_enter Try.func11, Try.ntmps11
  go_wp2_with (go_at_call 30; refine HO.out.mono ?_; rintro e w' ⟨rfl, hb'⟩; unfold obv; obtain ⟨⟨c0, c1, c2⟩, f0, f1, f2⟩ := row3 ((hb'.block w.heap.size (by simp; omega)).trans H0.out.1))
  refine bodyPost_ret (v := .tuple #[obv ⟨k, a, f⟩, .int .i64 er]) (by simp [results, Try.results11, go_sem, obv, c0, c1, c2]) rfl ⟨rfl, ?_⟩
  exact (((H0.out.2.trans (hb'.mono (by simp; omega))).setCell (Nat.le_refl _) _).setCell (Nat.le_refl _) _).setCell (Nat.le_refl _) _

/-- The row of one state. -/
theorem one_state (w : World) (s : Nat) : Ss (w.alloc (.cells #[.int .i64 (s : Int)] 62)) w.heap.size 1 (fun _ => (s : Int)) := ⟨by decide, by simp, fun k hk => by
  obtain rfl : k = 0 := by omega
  rw [new_row]; rfl⟩

/-- What turns the table: the answer, the table behind it; nothing else that was there turns. -/
def TbPost (w : World) (b : Nat) (v : Value) (T' : Nat → Pl) (e : Ending) (w' : World) : Prop := e = .returned v ∧ Tb w' b T' ∧ But b w w'

theorem kill_any (ht : Tb w b T) (h : Nat) (hh : h < 4294967296) : Calls Try.prog 13 #[.pointer (some ⟨b, 0, none⟩), .int .u32 (h : Int)] w (TbPost w b (.int .i64 (killA T h).1) (killA T h).2) := by
  have hb : Below w.heap.size w (w.alloc (.cells #[.int .i64 1] 62)) := (Below.refl _ w).alloc (Nat.le_refl _) _
  have hs : Ss (w.alloc (.cells #[.int .i64 1] 62)) w.heap.size 1 (fun _ => 1) := one_state w 1
  have hi : h % 256 < 256 := Nat.mod_lt _ (by decide)
  have e1 : okB T h (fun _ => 1) 1 = isB T h 1 := okB1 T h 1
  by_cases ho : isB T h 1 = true
  · have e : killA T h = (0, killT T (h % 256)) := by unfold killA; rw [if_pos ho]
    rw [e]
    have HF := hid (find_yes (ht.below hb) h hh w.heap.size 1 1 (fun _ => 1) hs (okB_yes (e1.trans ho)).1 (okB_yes (e1.trans ho)).2)
    have hfr := (ht.below hb).frozen (h % 256 * 5 + 3)
    have hc := (ht.below hb).cst hi
    have HT := hid (And.intro ((ht.below hb).setSt hi 2) hb)
    have HTl := hid ht.lt
    clear ht e ho hs e1
    generalize (T (h % 256)).st = st at *
    go_enter Try.func13, Try.ntmps13
    go_wp2_with (go_at_call 31; refine HF.out.mono ?_; rintro e w' ⟨rfl, rfl⟩)
    go_ret
    exact ⟨rfl, HT.out.1, (But.of_below HT.out.2).setCell (p := ⟨b, _, none⟩) (.inl rfl) _⟩
  · have e : killA T h = (8, T) := by unfold killA; rw [if_neg ho]
    rw [e]
    have HF := hid (find_no (ht.below hb) h hh w.heap.size 1 1 (fun _ => 1) hs (e1.trans (by simpa using ho)))
    have HT := hid (And.intro (ht.below hb) hb)
    clear ht e ho hs e1
    go_enter Try.func13, Try.ntmps13
    go_wp2_with (go_at_call 31; refine HF.out.mono ?_; rintro e w' ⟨rfl, rfl⟩)
    go_ret
    exact ⟨rfl, HT.out.1, But.of_below HT.out.2⟩
end
end Go.Proofs.Ytoahfeckadaomaa
