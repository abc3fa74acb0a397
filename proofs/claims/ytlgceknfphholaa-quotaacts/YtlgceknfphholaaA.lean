/- A tree of factories in memory, and the contracts of package quota's functions that turn nothing. -/
import Derived.Test.YtlgceknfphholaaM
import Derived.Test.YtlgceknfphholaaChecked
import Derived.Deep.AppendLies
import Derived.Deep.RegionHeld3
import Derived.Laws.OwnMore
import Derived.BigQuiet
import Derived.OwnWalk
import Derived.KernelRfl
namespace Go.Proofs.Ytlgceknfphholaa
open Go.RowKit

theorem Turn.but {S : Nat → Prop} {a w w' : World} {g : Nat} (h : Turn S a w) (k : But g w w') (hS : S g ∨ a.heap.size ≤ g) : Turn S a w' :=
  ⟨k.os.trans h.os, k.tape.trans h.tape, k.output.trans h.output, Nat.le_trans h.size k.size, fun i hi hg => (k.block i (Nat.lt_of_lt_of_le hi h.size) (fun e => by subst e; rcases hS with h1 | h1; exact hg h1; omega)).trans (h.block i hi hg)⟩
theorem Turn.bel {S : Nat → Prop} {a w w' : World} (h : Turn S a w) (hb : Below w.heap.size w w') : Turn S a w' := h.trans (Turn.of_below hb)
theorem Turn.wide {S S' : Nat → Prop} {a w : World} (h : Turn S a w) (hs : ∀ x, S x → S' x) : Turn S' a w := ⟨h.os, h.tape, h.output, h.size, fun k hk hn => h.block k hk (fun e => hn (hs k e))⟩
theorem Below.drewN {B : Nat} {a w : World} (h : Below B a w) (k : Nat) : Below B a (w.drewN k) := ⟨h.os, h.tape, h.output, h.size, h.block⟩
theorem _root_.Go.World.ownsRow.drewN {w : World} {base : Nat} {e : TypeId} {size : Nat} {v : Value} {n : Nat} {xs : List Value} (h : w.ownsRow base e size v n xs) (k : Nat) : (w.drewN k).ownsRow base e size v n xs := h
theorem _root_.Go.World.ownsRow.bel {w w' : World} {base B : Nat} {e : TypeId} {size : Nat} {v : Value} {n : Nat} {xs : List Value} (h : w.ownsRow base e size v n xs) (hb : Below B w w') (hB : w.heap.size ≤ B) : w'.ownsRow base e size v n xs := by
  refine h.other (fun g hg => ?_)
  rcases h.2 with ⟨rfl, _⟩ | ⟨g', cap, cur, rfl, _, h2, _⟩
  · cases hg
  · obtain rfl : g' = g := by simpa [Value.ownBlock] using hg
    exact hb.block _ (by have := (Array.getElem?_eq_some_iff.1 h2).1; omega)
theorem own_block {w : World} {base : Nat} {e : TypeId} {size : Nat} {v : Value} {k : Nat} {xs : List Value} (h : w.ownsRow base e size v k xs) : ∀ r, v.ownBlock = some r → base ≤ r ∧ r < w.heap.size := by
  rcases h.2 with ⟨rfl, _⟩ | ⟨g, cap, cur, rfl, hb, h2, _⟩
  · intro r hr; cases hr
  · intro r hr
    obtain rfl : g = r := by simpa [Value.ownBlock] using hr
    exact ⟨hb, (Array.getElem?_eq_some_iff.1 h2).1⟩
/-- A row of single cells, read. -/
theorem row_cells {w : World} {base : Nat} {e : TypeId} {v : Value} {n : Nat} {xs : List Value} (h : w.ownsRow base e 1 v n xs) : ∃ a cap, v = .slice a n cap ∧ ∀ k u, xs[k]? = some u → ∃ g, a = some ⟨g, 0, none⟩ ∧ w.cell? ⟨g, k, none⟩ = some u := by
  obtain ⟨hl, h⟩ := h
  rcases h with ⟨rfl, rfl⟩ | ⟨g, cap, cur, rfl, _, h2, _, _, _, ht⟩
  · refine ⟨none, 0, rfl, fun k u hk => ?_⟩
    obtain rfl : xs = [] := List.eq_nil_of_length_eq_zero (by simpa using hl)
    cases hk
  · refine ⟨_, cap, rfl, fun k u hk => ⟨g, rfl, ?_⟩⟩
    rw [cell_of_row _ _ _ _ _ _ h2]
    rw [← ht] at hk
    have hlt : k < n := by
      obtain ⟨hh, _⟩ := List.getElem?_eq_some_iff.1 hk
      simp at hh; omega
    rw [List.getElem?_take_of_lt (by omega), Array.getElem?_toList] at hk
    exact hk
theorem row_at {w : World} {base : Nat} {e : TypeId} {a : Option Addr} {n cap k : Nat} {xs : List Value} {u : Value} (h : w.ownsRow base e 1 (.slice a n cap) n xs) (hk : xs[k]? = some u) : ∃ g, a = some ⟨g, 0, none⟩ ∧ w.cell? ⟨g, k, none⟩ = some u := by
  obtain ⟨a', cap', e, hh⟩ := row_cells h
  obtain ⟨rfl, rfl⟩ : a = a' ∧ cap = cap' := by simpa using e
  exact hh k u hk

def nats (l : List Nat) : List Value := l.map fun (n : Nat) => .int .i64 (n : Int)
theorem nats_get (l : List Nat) {k : Nat} (h : k < l.length) : (nats l)[k]? = some (.int .i64 ((l[k]?.getD 0 : Nat) : Int)) := by
  simp [nats, h]
def ptrs (fb : Nat → Nat) (l : List Fac) : List Value := l.map fun f => .pointer (some ⟨fb f.id, 0, none⟩)
def cellsF (f : Fac) : Array Value := #[.int .i64 (f.lim : Int), .int .i64 (f.chg : Int), .int .i64 (f.id : Int), .int .i64 f.par]

structure Qm (w : World) (p : Nat) (a : Option Addr) (cap : Nat) (l : List Fac) (nxt : Nat) (fb : Nat → Nat) : Prop where
  head : w.heap[p]? = some (.cells #[.slice a l.length cap, .int .i64 (nxt : Int)] 56)
  row : w.ownsRow 0 57 1 (.slice a l.length cap) l.length (ptrs fb l)
  fac : ∀ f ∈ l, w.heap[fb f.id]? = some (.cells (cellsF f) 64)
  one : ∀ f ∈ l, ∀ g ∈ l, fb f.id = fb g.id → f.id = g.id
  rp : (Value.slice a 0 0).ownBlock ≠ some p
  rf : ∀ f ∈ l, (Value.slice a 0 0).ownBlock ≠ some (fb f.id)
  fp : ∀ f ∈ l, fb f.id ≠ p

/-- The blocks that are the tree's own. -/
def Own (p : Nat) (a : Option Addr) (fb : Nat → Nat) (l : List Fac) (x : Nat) : Prop := x = p ∨ (Value.slice a 0 0).ownBlock = some x ∨ ∃ f ∈ l, x = fb f.id
theorem slice_own (a : Option Addr) (n cap : Nat) : (Value.slice a n cap).ownBlock = (Value.slice a 0 0).ownBlock := by cases a <;> rfl

section
variable {w w' : World} {p cap nxt : Nat} {a : Option Addr} {l : List Fac} {fb : Nat → Nat}
theorem Qm.lt (h : Qm w p a cap l nxt fb) {x : Nat} (hx : Own p a fb l x) : x < w.heap.size := by
  rcases hx with rfl | hx | ⟨f, hf, rfl⟩
  · exact (Array.getElem?_eq_some_iff.1 h.head).1
  · exact (own_block h.row x (by rw [slice_own]; exact hx)).2
  · exact (Array.getElem?_eq_some_iff.1 (h.fac f hf)).1
theorem Qm.other (h : Qm w p a cap l nxt fb) (ho : ∀ x, Own p a fb l x → w'.heap[x]? = w.heap[x]?) : Qm w' p a cap l nxt fb :=
  ⟨(ho p (.inl rfl)).trans h.head, h.row.other (fun g hg => ho g (.inr (.inl (by rw [slice_own] at hg; exact hg)))), fun f hf => (ho _ (.inr (.inr ⟨f, hf, rfl⟩))).trans (h.fac f hf), h.one, h.rp, h.rf, h.fp⟩
theorem Qm.below (h : Qm w p a cap l nxt fb) (hb : Below w.heap.size w w') : Qm w' p a cap l nxt fb := h.other (fun x hx => hb.block x (h.lt hx))
theorem Qm.turn {S : Nat → Prop} (h : Qm w p a cap l nxt fb) (hb : Turn S w w') (hS : ∀ x, Own p a fb l x → ¬ S x) : Qm w' p a cap l nxt fb := h.other (fun x hx => hb.block x (h.lt hx) (hS x hx))
theorem Qm.drewN (h : Qm w p a cap l nxt fb) (k : Nat) : Qm (w.drewN k) p a cap l nxt fb := h.other (fun _ _ => rfl)
theorem Qm.cell (h : Qm w p a cap l nxt fb) : w.cell? ⟨p, 0, none⟩ = some (.slice a l.length cap) := by rw [cell_of_row _ _ _ _ _ _ h.head]; rfl
theorem Qm.cell1 (h : Qm w p a cap l nxt fb) : w.cell? ⟨p, 1, none⟩ = some (.int .i64 (nxt : Int)) := by rw [cell_of_row _ _ _ _ _ _ h.head]; rfl
theorem Qm.ptr (h : Qm w p a cap l nxt fb) {k : Nat} {f : Fac} (hk : l[k]? = some f) : ∃ g, a = some ⟨g, 0, none⟩ ∧ w.cell? ⟨g, k, none⟩ = some (.pointer (some ⟨fb f.id, 0, none⟩)) :=
  row_at h.row (by unfold ptrs; rw [List.getElem?_map, hk]; rfl)
theorem Qm.lim (h : Qm w p a cap l nxt fb) {f : Fac} (hf : f ∈ l) : w.cell? ⟨fb f.id, 0, none⟩ = some (.int .i64 (f.lim : Int)) := by rw [cell_of_row _ _ _ _ _ _ (h.fac f hf)]; rfl
theorem Qm.chg (h : Qm w p a cap l nxt fb) {f : Fac} (hf : f ∈ l) : w.cell? ⟨fb f.id, 1, none⟩ = some (.int .i64 (f.chg : Int)) := by rw [cell_of_row _ _ _ _ _ _ (h.fac f hf)]; rfl
theorem Qm.id (h : Qm w p a cap l nxt fb) {f : Fac} (hf : f ∈ l) : w.cell? ⟨fb f.id, 2, none⟩ = some (.int .i64 (f.id : Int)) := by rw [cell_of_row _ _ _ _ _ _ (h.fac f hf)]; rfl
theorem Qm.par (h : Qm w p a cap l nxt fb) {f : Fac} (hf : f ∈ l) : w.cell? ⟨fb f.id, 3, none⟩ = some (.int .i64 f.par) := by rw [cell_of_row _ _ _ _ _ _ (h.fac f hf)]; rfl
end

theorem info3 : (Try.prog.info? 3).map (fun i => (i.zero, i.size, i.bytes)) = some (some (.int .i64 0), 1, 8) := by kernel_rfl
theorem info57 : (Try.prog.info? 57).map (fun i => (i.zero, i.size, i.bytes)) = some (some (.pointer none), 1, 8) := by kernel_rfl

theorem take_sum (xs : List Nat) {k : Nat} (h : k < xs.length) : (xs.take (k + 1)).sum = (xs.take k).sum + xs[k]?.getD 0 := by
  rw [List.take_add_one, List.sum_append]
  simp [h]
theorem take_le (xs : List Nat) (k : Nat) : (xs.take k).sum ≤ xs.sum := sub_sum (List.take_sublist _ _)

theorem sum_any (w : World) (base : Nat) (v : Value) (xs : List Nat) (h : w.ownsRow base 3 1 v xs.length (nats xs)) (hs : xs.sum ≤ 1073741824) (hl : xs.length ≤ 32) :
    Calls Try.prog 37 #[v] w fun e w' => e = .returned (.int .i64 (xs.sum : Int)) ∧ w' = w := by
  obtain ⟨a, cap, rfl, hc⟩ := row_cells h
  have HC := hid hc
  clear hc h
  go_enter Try.func37, Try.ntmps37
  go_wp2
  go_loop [3, 8] (fun s i => ∃ k : Nat, k ≤ xs.length ∧ i = .int .i64 k ∧ s = .int .i64 ((xs.take k).sum : Nat)) (fun _ i => xs.length - (intOf i).toNat)
  case atStart => exact ⟨0, Nat.zero_le _, rfl, rfl⟩
  case round =>
    obtain ⟨k, hk, rfl, rfl⟩ := hrel
    by_cases hlt : k < xs.length
    · obtain ⟨g, rfl, hx⟩ := HC.out k _ (nats_get xs hlt)
      have h1 := take_sum xs hlt
      have h2 := take_le xs (k + 1)
      have H1 := hid h1
      rw [h1] at h2
      clear h1
      generalize xs[k]?.getD 0 = x at *
      generalize (xs.take k).sum = s at *
      go_wp2
      exact ⟨⟨k + 1, by omega, by go_num, by rw [H1.out]; go_num⟩, by simp [intOf]; omega⟩
    · obtain rfl : k = xs.length := by omega
      rw [List.take_length]
      go_wp2
      go_ret
      exact ⟨rfl, rfl⟩

theorem use_any (w : World) (base b : Nat) (v : Value) (xs : List Nat) (c : Nat) (h : w.ownsRow base 3 1 v xs.length (nats xs)) (hc : w.cell? ⟨b, 1, none⟩ = some (.int .i64 (c : Int))) (hs : c + xs.sum ≤ 1073741824) (hl : xs.length ≤ 32) :
    Calls Try.prog 31 #[.pointer (some ⟨b, 0, none⟩), v] w fun e w' => e = .returned (.int .i64 ((c + xs.sum : Nat) : Int)) ∧ ∃ q, w' = w.drewN q := by
  have HR := hid h
  clear h
  obtain ⟨s, hse⟩ : ∃ s, s = xs.sum := ⟨_, rfl⟩
  have HS := fun n => sum_any (w.drewN n) base v xs (HR.out.drewN n) (by omega) hl
  rw [← hse] at HS hs ⊢
  have HS2 := hid HS
  clear hse HS
  go_enter Try.func31, Try.ntmps31
  go_wp2_with fail
  go_quiet ((go_at_call 37; exact Calls.quiet_of_same (HS2.out _)))
  go_wp2_with fail
  go_ret
  exact ⟨by first | rfl | exact ret_int (by omega), nq, rfl⟩

theorem fits_no (w : World) (b : Nat) (v : Value) (n : Int) (hn : n < 0) :
    Calls Try.prog 29 #[.pointer (some ⟨b, 0, none⟩), .int .i64 n, v] w fun e w' => e = .returned (.int .i64 1) ∧ w' = w := by
  go_enter Try.func29, Try.ntmps29
  go_wp2_with fail
  go_ret
  exact ⟨rfl, rfl⟩
theorem fits_any (w : World) (base b : Nat) (v : Value) (xs : List Nat) (c m : Nat) (n : Int) (h : w.ownsRow base 3 1 v xs.length (nats xs)) (h0 : w.cell? ⟨b, 0, none⟩ = some (.int .i64 (m : Int))) (hc : w.cell? ⟨b, 1, none⟩ = some (.int .i64 (c : Int))) (hs : c + xs.sum ≤ 1073741824) (hm : m ≤ 1073741824) (hl : xs.length ≤ 32) (hn : 0 ≤ n) :
    Calls Try.prog 29 #[.pointer (some ⟨b, 0, none⟩), .int .i64 n, v] w fun e w' => e = .returned (.int .i64 (if (m : Int) - ((c + xs.sum : Nat) : Int) < n then 5 else 0)) ∧ ∃ q, w' = w.drewN q := by
  have HR := hid h
  clear h
  obtain ⟨s, hse⟩ : ∃ s, s = c + xs.sum := ⟨_, rfl⟩
  have HS := fun k => use_any (w.drewN k) base b v xs c (HR.out.drewN k) hc (by omega) hl
  rw [← hse] at HS hs ⊢
  have HS2 := hid HS
  clear hse HS
  by_cases hd : (m : Int) - (s : Int) < n
  · rw [if_pos hd]
    go_enter Try.func29, Try.ntmps29
    go_wp2_with fail
    go_quiet ((go_at_call 31; exact Calls.quiet_of (HS2.out _)))
    go_wp2_with fail
    go_ret
    exact ⟨rfl, nq, rfl⟩
  · rw [if_neg hd]
    go_enter Try.func29, Try.ntmps29
    go_wp2_with fail
    go_quiet ((go_at_call 31; exact Calls.quiet_of (HS2.out _)))
    go_wp2_with fail
    go_ret
    exact ⟨rfl, nq, rfl⟩

section
variable {w : World} {p cap nxt : Nat} {a : Option Addr} {l : List Fac} {fb : Nat → Nat}

theorem find_nil (i : Int) (w : World) : Calls Try.prog 28 #[.pointer none, .int .i64 i] w fun e w' => e = .returned (.tuple #[.pointer none, .int .i64 1]) ∧ w' = w := by
  go_enter Try.func28, Try.ntmps28
  go_wp2
  go_ret2
  exact ⟨rfl, rfl⟩
theorem find_none (h : Qm w p a cap l nxt fb) (hl : l.length ≤ 32) (i : Int) (hi : the l i = none) :
    Calls Try.prog 28 #[.pointer (some ⟨p, 0, none⟩), .int .i64 i] w fun e w' => e = .returned (.tuple #[.pointer none, .int .i64 6]) ∧ w' = w := by
  have c0 := h.cell
  have HQ := hid h
  have HI := hid hi
  clear h hi
  go_enter Try.func28, Try.ntmps28
  go_wp2
  go_loop [15] (fun i => ∃ k : Nat, k ≤ l.length ∧ i = .int .i64 k) (fun i => l.length - (intOf i).toNat)
  case atStart => exact ⟨0, Nat.zero_le _, rfl⟩
  case round =>
    obtain ⟨k, hk, rfl⟩ := hrel
    by_cases hlt : k < l.length
    · obtain ⟨f, hf⟩ : ∃ f, l[k]? = some f := ⟨_, List.getElem?_eq_getElem hlt⟩
      have hm := List.mem_of_getElem? hf
      obtain ⟨g, rfl, hx⟩ := HQ.out.ptr hf
      have h2 := HQ.out.id hm
      have hne := the_none.1 HI.out f hm
      have hne2 : ((f.id : Int) == i) = false := by rw [beq_eq_false_iff_ne]; exact hne
      generalize fb f.id = b at *
      generalize f.id = fi at *
      go_wp2
      exact ⟨⟨k + 1, by omega, by go_num⟩, by simp [intOf]; omega⟩
    · go_wp2
      go_ret2
      exact ⟨rfl, rfl⟩
theorem find_some (h : Qm w p a cap l nxt fb) (hl : l.length ≤ 32) (i : Int) (f : Fac) (hi : the l i = some f) :
    Calls Try.prog 28 #[.pointer (some ⟨p, 0, none⟩), .int .i64 i] w fun e w' => e = .returned (.tuple #[.pointer (some ⟨fb f.id, 0, none⟩), .int .i64 0]) ∧ w' = w := by
  have c0 := h.cell
  obtain ⟨n, hn, hnl, hid', hno⟩ := the_at hi
  have HQ := hid h
  have HN := hid (And.intro hn hno)
  have HID := hid hid'
  obtain ⟨b, hb⟩ : ∃ b, b = fb f.id := ⟨_, rfl⟩
  rw [← hb]
  have HB := hid hb
  clear h hi hn hno hid' hb
  go_enter Try.func28, Try.ntmps28
  go_wp2
  go_loop [15] (fun i => ∃ k : Nat, k ≤ n ∧ i = .int .i64 k) (fun i => l.length - (intOf i).toNat)
  case atStart => exact ⟨0, Nat.zero_le _, rfl⟩
  case round =>
    obtain ⟨k, hk, rfl⟩ := hrel
    have hlt : k < l.length := by omega
    by_cases hkn : k < n
    · obtain ⟨f', hf⟩ : ∃ f, l[k]? = some f := ⟨_, List.getElem?_eq_getElem hlt⟩
      have hm := List.mem_of_getElem? hf
      obtain ⟨g, rfl, hx⟩ := HQ.out.ptr hf
      have h2 := HQ.out.id hm
      have hne := HN.out.2 k f' hkn hf
      have hne2 : ((f'.id : Int) == i) = false := by rw [beq_eq_false_iff_ne]; exact hne
      generalize fb f'.id = b' at *
      generalize f'.id = fi at *
      go_wp2
      exact ⟨⟨k + 1, by omega, by go_num⟩, by simp [intOf]; omega⟩
    · obtain rfl : k = n := by omega
      have hm := List.mem_of_getElem? HN.out.1
      obtain ⟨g, rfl, hx⟩ := HQ.out.ptr HN.out.1
      have h2 := HQ.out.id hm
      have hne2 : ((f.id : Int) == i) = true := by rw [beq_iff_eq]; exact HID.out
      rw [← HB.out] at hx h2
      clear HB HN HID
      generalize f.id = fi at *
      go_wp2
      go_ret2
      exact ⟨rfl, rfl⟩
end
end Go.Proofs.Ytlgceknfphholaa
