/- Contracts of charge, refund, Charge and Refund. -/
import Derived.Test.YtlgceknfphholaaB
namespace Go.Proofs.Ytlgceknfphholaa
open Go.RowKit

/-- A tree in memory, whose own blocks are among Z. -/
def Qt (Z : Nat → Prop) (w : World) (p : Nat) (l : List Fac) (nxt : Nat) : Prop := ∃ a cap fb, Qm w p a cap l nxt fb ∧ ∀ x, Own p a fb l x → Z x
theorem Qt.below {Z : Nat → Prop} {w w' : World} {p nxt : Nat} {l : List Fac} (h : Qt Z w p l nxt) (hb : Below w.heap.size w w') : Qt Z w' p l nxt := by
  obtain ⟨a, cap, fb, hq, hz⟩ := h
  exact ⟨a, cap, fb, hq.below hb, hz⟩
theorem Qt.turn {Z S : Nat → Prop} {w w' : World} {p nxt : Nat} {l : List Fac} (h : Qt Z w p l nxt) (hb : Turn S w w') (hS : ∀ x, Z x → ¬ S x) : Qt Z w' p l nxt := by
  obtain ⟨a, cap, fb, hq, hz⟩ := h
  exact ⟨a, cap, fb, hq.turn hb (fun x hx => hS x (hz x hx)), hz⟩
theorem Qt.narrow {Z : Nat → Prop} {w : World} {p nxt : Nat} {l : List Fac} (h : Qt Z w p l nxt) : Qt (fun x => Z x ∧ x < w.heap.size) w p l nxt := by
  obtain ⟨a, cap, fb, hq, hz⟩ := h
  exact ⟨a, cap, fb, hq, fun x hx => ⟨hz x hx, hq.lt hx⟩⟩
theorem Qt.wide {Z Z' : Nat → Prop} {w : World} {p nxt : Nat} {l : List Fac} (h : Qt Z w p l nxt) (hz' : ∀ x, Z x → Z' x) : Qt Z' w p l nxt := by
  obtain ⟨a, cap, fb, hq, hz⟩ := h
  exact ⟨a, cap, fb, hq, fun x hx => hz' x (hz x hx)⟩

theorem ptrs_ids (fb : Nat → Nat) (l : List Fac) : ptrs fb l = (l.map Fac.id).map fun i => .pointer (some ⟨fb i, 0, none⟩) := by
  unfold ptrs; rw [List.map_map]; rfl
theorem ptrs_setC (fb : Nat → Nat) (l : List Fac) (i : Int) (c : Nat) : ptrs fb (setC l i c) = ptrs fb l := by rw [ptrs_ids, ptrs_ids, setC_ids]

section
variable {w : World} {p cap nxt : Nat} {a : Option Addr} {l : List Fac} {fb : Nat → Nat}
theorem Qm.setC (h : Qm w p a cap l nxt fb) (hu : l.Pairwise fun a b => a.id < b.id) {f : Fac} (hf : f ∈ l) (c : Nat) : Qm (w.setCell ⟨fb f.id, 1, none⟩ (.int .i64 (c : Int))) p a cap (setC l f.id c) nxt fb := by
  have ho : ∀ x, x ≠ fb f.id → (w.setCell ⟨fb f.id, 1, none⟩ (.int .i64 (c : Int))).heap[x]? = w.heap[x]? := fun x hx => Below.heap_setCell _ _ _ _ hx
  refine ⟨?_, ?_, ?_, ?_, h.rp, ?_, ?_⟩
  · rw [ho p (fun e => h.fp f hf e.symm), setC_len]; exact h.head
  · rw [setC_len, ptrs_setC]
    exact h.row.other (fun g hg => ho g (fun e => h.rf f hf (by rw [slice_own] at hg; rw [hg, e])))
  · intro x hx
    rcases mem_setC hx with ⟨hx, hne⟩ | ⟨g, hg, he, rfl⟩
    · rw [ho _ (fun e => hne (by have := h.one x hx f hf e; omega))]
      exact h.fac x hx
    · have e2 : g = f := same_of hu hg hf (by omega)
      subst e2
      show (w.setCell ⟨fb g.id, 1, none⟩ (.int .i64 (c : Int))).heap[fb g.id]? = _
      rw [setCell_head (h.fac g hg)]; rfl
  · intro x hx y hy e
    obtain ⟨x', hx', e1, _⟩ := mem_setC_id hx
    obtain ⟨y', hy', e2, _⟩ := mem_setC_id hy
    rw [← e1, ← e2] at e ⊢
    exact h.one x' hx' y' hy' e
  · intro x hx
    obtain ⟨x', hx', e1, _⟩ := mem_setC_id hx
    rw [← e1]; exact h.rf x' hx'
  · intro x hx
    obtain ⟨x', hx', e1, _⟩ := mem_setC_id hx
    rw [← e1]; exact h.fp x' hx'
theorem own_setC {x : Nat} {i : Int} {c : Nat} (h : Own p a fb (setC l i c) x) : Own p a fb l x := by
  rcases h with h | h | ⟨f, hf, rfl⟩
  · exact .inl h
  · exact .inr (.inl h)
  · obtain ⟨g, hg, e, _⟩ := mem_setC_id hf
    exact .inr (.inr ⟨g, hg, by rw [e]⟩)
end

set_option maxHeartbeats 1000000 in
theorem charge_no (w : World) (b : Nat) (v : Value) (n : Int) (hn : n < 0) :
    Calls Try.prog 34 #[.pointer (some ⟨b, 0, none⟩), .int .i64 n, v] w fun e w' => e = .returned (.int .i64 1) ∧ w' = w := by
  have HF := hid (fits_no w b v n hn)
  clear hn
  go_enter Try.func34, Try.ntmps34
  go_wp2_with (go_at_call 29; refine HF.out.mono ?_; rintro e w1 ⟨rfl, rfl⟩)
  go_ret
  exact ⟨rfl, rfl⟩
set_option maxHeartbeats 1000000 in
theorem charge_full (w : World) (base b : Nat) (v : Value) (xs : List Nat) (c m : Nat) (n : Int) (h : w.ownsRow base 3 1 v xs.length (nats xs)) (h0 : w.cell? ⟨b, 0, none⟩ = some (.int .i64 (m : Int))) (hc : w.cell? ⟨b, 1, none⟩ = some (.int .i64 (c : Int))) (hs : c + xs.sum ≤ 1073741824) (hm : m ≤ 1073741824) (hl : xs.length ≤ 32) (hn : 0 ≤ n) (hf : (m : Int) - ((c + xs.sum : Nat) : Int) < n) :
    Calls Try.prog 34 #[.pointer (some ⟨b, 0, none⟩), .int .i64 n, v] w fun e w' => e = .returned (.int .i64 5) ∧ ∃ q, w' = w.drewN q := by
  have HF := fits_any w base b v xs c m n h h0 hc hs hm hl hn
  rw [if_pos hf] at HF
  have HF2 := hid HF
  clear HF h h0 hc hs hm hl hn hf
  go_enter Try.func34, Try.ntmps34
  go_wp2_with (go_at_call 29; refine HF2.out.mono ?_; rintro e w1 ⟨rfl, q, rfl⟩)
  go_ret
  exact ⟨rfl, q, rfl⟩
set_option maxHeartbeats 1000000 in
theorem charge_ok (w : World) (base b : Nat) (v : Value) (xs : List Nat) (c m n : Nat) (h : w.ownsRow base 3 1 v xs.length (nats xs)) (h0 : w.cell? ⟨b, 0, none⟩ = some (.int .i64 (m : Int))) (hc : w.cell? ⟨b, 1, none⟩ = some (.int .i64 (c : Int))) (hfr : w.frozen? ⟨b, 1, none⟩ = false) (hs : c + xs.sum ≤ 1073741824) (hm : m ≤ 1073741824) (hl : xs.length ≤ 32) (hf : ¬ (m : Int) - ((c + xs.sum : Nat) : Int) < (n : Int)) :
    Calls Try.prog 34 #[.pointer (some ⟨b, 0, none⟩), .int .i64 (n : Int), v] w fun e w' => e = .returned (.int .i64 0) ∧ ∃ q, w' = (w.drewN q).setCell ⟨b, 1, none⟩ (.int .i64 ((c + n : Nat) : Int)) := by
  have HF := fits_any w base b v xs c m n h h0 hc hs hm hl (by omega)
  rw [if_neg hf] at HF
  have HF2 := hid HF
  have hcn : c + n ≤ 1073741824 := by omega
  clear HF h h0 hs hm hl hf
  go_enter Try.func34, Try.ntmps34
  go_wp2_with (go_at_call 29; refine HF2.out.mono ?_; rintro e w1 ⟨rfl, q, rfl⟩)
  go_ret
  exact ⟨rfl, q, by congr 1⟩

theorem refund_bad (w : World) (b c : Nat) (n : Int) (hc : w.cell? ⟨b, 1, none⟩ = some (.int .i64 (c : Int))) (hn : n < 0 ∨ (c : Int) < n) :
    Calls Try.prog 35 #[.pointer (some ⟨b, 0, none⟩), .int .i64 n] w fun e w' => e = .returned (.int .i64 1) ∧ w' = w := by
  by_cases h1 : n < 0
  · clear hn
    go_enter Try.func35, Try.ntmps35
    go_wp2_with fail
    go_ret
    exact ⟨rfl, rfl⟩
  · have h2 : (c : Int) < n := by omega
    clear hn
    go_enter Try.func35, Try.ntmps35
    go_wp2_with fail
    go_ret
    exact ⟨rfl, rfl⟩
theorem refund_ok (w : World) (b c n : Nat) (hc : w.cell? ⟨b, 1, none⟩ = some (.int .i64 (c : Int))) (hfr : w.frozen? ⟨b, 1, none⟩ = false) (hcl : c ≤ 1073741824) (hn : n ≤ c) :
    Calls Try.prog 35 #[.pointer (some ⟨b, 0, none⟩), .int .i64 (n : Int)] w fun e w' => e = .returned (.int .i64 0) ∧ w' = w.setCell ⟨b, 1, none⟩ (.int .i64 ((c - n : Nat) : Int)) := by
  have h1 : ¬ ((n : Int) < 0) := by omega
  have h2 : ¬ ((c : Int) < (n : Int)) := by omega
  have h3 : (c : Int) - (n : Int) = ((c - n : Nat) : Int) := by omega
  have h4 : c - n ≤ 1073741824 := by omega
  generalize c - n = d at *
  go_enter Try.func35, Try.ntmps35
  go_wp2_with fail
  go_ret
  exact ⟨rfl, by first | rfl | congr 2⟩
end Go.Proofs.Ytlgceknfphholaa
