/- Contracts of add, New and Carve. -/
import Derived.Test.YtlgceknfphholaaD
import Derived.Deep.Cut
namespace Go.Proofs.Ytlgceknfphholaa
open Go.RowKit

def AddPost (w : World) (p : Nat) (S : Nat → Prop) (l : List Fac) (nxt : Nat) (par : Int) (m : Nat) (e : Ending) (w' : World) : Prop :=
  e = .returned (.int .i64 (nxt : Int)) ∧ (∃ a' cap' fb', Qm w' p a' cap' (l ++ [⟨nxt, par, m, 0⟩]) (nxt + 1) fb' ∧ ∀ x, Own p a' fb' (l ++ [⟨nxt, par, m, 0⟩]) x → S x ∨ w.heap.size ≤ x) ∧ Turn S w w'

def fbx (fb : Nat → Nat) (n b : Nat) : Nat → Nat := fun i => if i = n then b else fb i
theorem fbx_new (fb : Nat → Nat) (n b : Nat) : fbx fb n b n = b := by simp [fbx]
theorem fbx_old (fb : Nat → Nat) {n b i : Nat} (h : i ≠ n) : fbx fb n b i = fb i := by simp [fbx, h]

section
variable {w : World} {p cap nxt : Nat} {a : Option Addr} {l : List Fac} {fb : Nat → Nat}
set_option maxHeartbeats 2000000 in
theorem add_any (h : Qm w p a cap l nxt fb) (hl : l.length ≤ 32) (hlow : ∀ f ∈ l, f.id < nxt) (hn : nxt ≤ 1073741824) (par : Int) (m : Nat) :
    Calls Try.prog 27 #[.pointer (some ⟨p, 0, none⟩), .int .i64 par, .int .i64 (m : Int)] w (AddPost w p (Own p a fb l) l nxt par m) := by
  obtain ⟨i0, hi0, hz0, hz1, hz2⟩ := info_parts info57
  have HIF := hid (And.intro hi0 (And.intro hz0 (And.intro hz1 hz2)))
  have HQ := hid h
  have HL := hid hlow
  have c0 := h.cell
  have c1 := h.cell1
  have hpl : p < w.heap.size := h.lt (.inl rfl)
  clear h hi0 hz0 hz1 hz2 hlow
  go_enter Try.func27, Try.ntmps27
  go_upto_region 2 with fail
  have hfl : (w.alloc (.cells #[.int .i64 (m : Int), .int .i64 0, .int .i64 (nxt : Int), .int .i64 par] 64)).heap[w.heap.size]? = some (.cells #[.int .i64 (m : Int), .int .i64 0, .int .i64 (nxt : Int), .int .i64 par] 64) := heap_alloc_new _ _
  have hb1 : Below w.heap.size w (w.alloc (.cells #[.int .i64 (m : Int), .int .i64 0, .int .i64 (nxt : Int), .int .i64 par] 64)) := (Below.refl _ _).alloc (Nat.le_refl _) _
  have hs1 : (w.alloc (.cells #[.int .i64 (m : Int), .int .i64 0, .int .i64 (nxt : Int), .int .i64 par] 64)).heap.size = w.heap.size + 1 := by simp
  generalize w.alloc (.cells #[.int .i64 (m : Int), .int .i64 0, .int .i64 (nxt : Int), .int .i64 par] 64) = w1 at *
  have hQ1 := HQ.out.below hb1
  have c01 := hQ1.cell
  have HQ1 := hid hQ1
  have HF1 := hid hfl
  have HS1 := hid hs1
  clear c0 c1 hfl hQ1 hs1
  go_wp2_with (first
    | (at_builtin; refine wpList_append_lies _ rfl _ _ 54 rfl 0 57 i0 (.pointer none) 1 8 Try.underlying54 HIF.out.1 HIF.out.2.1 HIF.out.2.2.1 HIF.out.2.2.2 rfl (by decide) _ _ _ rfl (HQ1.out.row.alloc _) ⟨w1.heap.size, 0, none⟩ 1 1 [.pointer (some ⟨w.heap.size, 0, none⟩)] rfl rfl ?c1 ?c2 (by decide) ?c3 ?c4 (Nat.zero_le _) _ rfl ?_)
    | fail)
  case c1 =>
    intro j u hj
    rw [addr_add, Nat.zero_add, cell_of_row _ _ _ _ _ _ (heap_alloc_new _ _), ← hj]
    match j, hj with
    | 0, _ => rfl
  case c2 =>
    intro u hu
    simp at hu
    rw [hu]; rfl
  case c3 => unfold maxLen; omega
  case c4 => omega
  intro g2 cap2 w2 hown2 hg2 hat2 hlt2
  have hs1 := HS1.out
  have hgrow : ∀ x, x < w1.heap.size → (Value.slice a l.length cap).ownBlock ≠ some x → w2.heap[x]? = w1.heap[x]? := fun x hx hne => by
    rw [hg2.block x (by simp; omega) (fun e => hne e.symm), Below.heap_alloc w1 _ x hx]
  have hp2 : w2.heap[p]? = some (.cells #[.slice a l.length cap, .int .i64 (nxt : Int)] 56) := by
    rw [hgrow p (by omega) (by rw [slice_own]; exact HQ.out.rp)]; exact HQ1.out.head
  have hf2 : w2.heap[w.heap.size]? = some (.cells #[.int .i64 (m : Int), .int .i64 0, .int .i64 (nxt : Int), .int .i64 par] 64) := by
    rw [hgrow w.heap.size (by omega) (fun e => by have := (own_block HQ.out.row _ e).2; omega)]; exact HF1.out
  have hT2 : Turn (Own p a fb l) w w2 := by
    refine (Turn.of_below (hb1.alloc hb1.size _)).trans ⟨hg2.os, hg2.tape, hg2.output, hg2.size, fun i hi hn => hg2.block i hi (fun e => hn (.inr (.inl ?_)))⟩
    rw [← slice_own a l.length cap]; exact e.symm
  have hfac2 : ∀ f ∈ l, w2.heap[fb f.id]? = some (.cells (cellsF f) 64) := fun f hf => by
    rw [hgrow _ (HQ1.out.lt (.inr (.inr ⟨f, hf, rfl⟩))) (by rw [slice_own]; exact HQ.out.rf f hf)]; exact HQ1.out.fac f hf
  have hgp : g2 ≠ p := by
    rintro rfl
    rcases hat2 with e | e
    · exact HQ.out.rp (by rw [← slice_own a l.length cap]; exact e)
    · first | omega | (simp at e; omega)
  have hgf : g2 ≠ w.heap.size := by
    rintro rfl
    rcases hat2 with e | e
    · have := (own_block HQ.out.row _ e).2; omega
    · first | omega | (simp at e; omega)
  have hgfs : ∀ f ∈ l, g2 ≠ fb f.id := fun f hf e0 => by
    subst e0
    rcases hat2 with e | e
    · exact HQ.out.rf f hf (by rw [← slice_own a l.length cap]; exact e)
    · have := HQ.out.lt (.inr (.inr ⟨f, hf, rfl⟩)); first | omega | (simp at e; omega)
  have hgS : (Own p a fb l) g2 ∨ w.heap.size ≤ g2 := by
    rcases hat2 with e | e
    · exact .inl (.inr (.inl (by rw [← slice_own a l.length cap]; exact e)))
    · right; first | omega | (simp at e; omega)
  have q0 : w2.cell? ⟨p, 0, none⟩ = some (.slice a l.length cap) := by rw [cell_of_row _ _ _ _ _ _ hp2]; rfl
  have q1 : w2.cell? ⟨p, 1, none⟩ = some (.int .i64 (nxt : Int)) := by rw [cell_of_row _ _ _ _ _ _ hp2]; rfl
  have f0 := frozen_of_row w2 p 0 _ _ hp2
  have f1 := frozen_of_row w2 p 1 _ _ hp2
  have q2 : w2.cell? ⟨w.heap.size, 2, none⟩ = some (.int .i64 (nxt : Int)) := by rw [cell_of_row _ _ _ _ _ _ hf2]; rfl
  have hpw : p ≠ w.heap.size := by omega
  have hpw' : w.heap.size ≠ p := by omega
  have H2 := hid (And.intro hown2 (And.intro hp2 (And.intro hf2 (And.intro hfac2 (And.intro hgp (And.intro hgf (And.intro hgfs (And.intro hgS hT2))))))))
  clear hown2 hg2 hat2 hgrow hp2 hf2 hfac2 hgp hgf hgfs hgS hT2 c01 hs1
  obtain ⟨wf, hwf⟩ : ∃ wf, wf = w.heap.size := ⟨_, rfl⟩
  rw [← hwf] at q2 hpw hpw' ⊢
  have HWF := hid hwf
  clear hwf
  go_wp2_with fail
  go_ret
  refine ⟨rfl, ⟨some ⟨g2, 0, none⟩, cap2, fbx fb nxt w.heap.size, ?_, ?_⟩, ?_⟩
  · have ho : ∀ x, x ≠ p → ((w2.setCell ⟨p, 0, none⟩ (.slice (some ⟨g2, 0, none⟩) (l.length + 1) cap2)).setCell ⟨p, 1, none⟩ (.int .i64 ((nxt : Int) + 1))).heap[x]? = w2.heap[x]? := fun x hx => by
      rw [Below.heap_setCell _ _ _ _ hx, Below.heap_setCell _ _ _ _ hx]
    have hptr : ptrs (fbx fb nxt w.heap.size) (l ++ [⟨nxt, par, m, 0⟩]) = ptrs fb l ++ [.pointer (some ⟨w.heap.size, 0, none⟩)] := by
      unfold ptrs
      rw [List.map_append]
      congr 1
      · apply List.map_congr_left
        intro f hf
        rw [fbx_old fb (by have := HL.out f hf; omega)]
      · rw [List.map_cons, List.map_nil, fbx_new]
    have hneid : ∀ f ∈ l, f.id ≠ nxt := fun f hf => by have := HL.out f hf; omega
    refine ⟨?_, ?_, ?_, ?_, ?_, ?_, ?_⟩
    · rw [setCell_head (setCell_head H2.out.2.1 _) _, List.length_append]; rfl
    · rw [hptr, List.length_append]
      exact H2.out.1.other (fun g hg => by
        obtain rfl : g2 = g := by simpa [Value.ownBlock] using hg
        exact ho _ H2.out.2.2.2.2.1)
    · intro f hf
      rcases List.mem_append.1 hf with hf | hf
      · rw [fbx_old fb (hneid f hf), ho _ (HQ.out.fp f hf)]; exact H2.out.2.2.2.1 f hf
      · rw [List.mem_singleton] at hf; subst hf
        show ((w2.setCell _ _).setCell _ _).heap[fbx fb nxt w.heap.size nxt]? = _
        rw [fbx_new, ho _ (by rw [← HWF.out]; exact hpw')]; exact H2.out.2.2.1
    · have hlt : ∀ f ∈ l, fb f.id ≠ w.heap.size := fun f hf => by have := HQ.out.lt (.inr (.inr ⟨f, hf, rfl⟩)); omega
      intro f hf g hg e
      rcases List.mem_append.1 hf with hf | hf <;> rcases List.mem_append.1 hg with hg | hg
      · rw [fbx_old fb (hneid f hf), fbx_old fb (hneid g hg)] at e
        exact HQ.out.one f hf g hg e
      · rw [List.mem_singleton] at hg; subst hg
        rw [fbx_old fb (hneid f hf), fbx_new] at e
        exact absurd e (hlt f hf)
      · rw [List.mem_singleton] at hf; subst hf
        rw [fbx_old fb (hneid g hg), fbx_new] at e
        exact absurd e.symm (hlt g hg)
      · rw [List.mem_singleton] at hf hg; subst hf; subst hg; rfl
    · intro e
      exact H2.out.2.2.2.2.1 (by simpa [Value.ownBlock] using e)
    · intro f hf e
      have e : g2 = fbx fb nxt w.heap.size f.id := by simpa [Value.ownBlock] using e
      rcases List.mem_append.1 hf with hf | hf
      · rw [fbx_old fb (hneid f hf)] at e
        exact H2.out.2.2.2.2.2.2.1 f hf e
      · rw [List.mem_singleton] at hf; subst hf
        rw [fbx_new] at e
        exact H2.out.2.2.2.2.2.1 e
    · intro f hf e
      rcases List.mem_append.1 hf with hf | hf
      · rw [fbx_old fb (hneid f hf)] at e; exact HQ.out.fp f hf e
      · rw [List.mem_singleton] at hf; subst hf
        rw [fbx_new] at e; omega
  · intro x hx
    rcases hx with rfl | hx | ⟨f, hf, rfl⟩
    · exact .inl (.inl rfl)
    · obtain rfl : g2 = x := by simpa [Value.ownBlock] using hx
      exact H2.out.2.2.2.2.2.2.2.1
    · rcases List.mem_append.1 hf with hf | hf
      · left; rw [fbx_old fb (by have := HL.out f hf; omega)]; exact .inr (.inr ⟨f, hf, rfl⟩)
      · rw [List.mem_singleton] at hf; subst hf
        right; show w.heap.size ≤ fbx fb nxt w.heap.size nxt; rw [fbx_new]; exact Nat.le_refl _
  · exact (H2.out.2.2.2.2.2.2.2.2.but (But.setCell (But.refl p _) (.inl rfl) _) (.inl (.inl rfl))).but (But.setCell (But.refl p _) (.inl rfl) _) (.inl (.inl rfl))
end
end Go.Proofs.Ytlgceknfphholaa
