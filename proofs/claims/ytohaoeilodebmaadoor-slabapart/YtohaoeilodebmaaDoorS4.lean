/- The open slabs' own Push. -/
import Derived.Test.YtohaoeilodebmaaDoorS3
import Derived.Deep.AppendLies
import Derived.Deep.Cut
namespace Go.Proofs.YtohaoeilodebmaaDoor
open Go.RowKit Go.Maps

theorem info82 : (Tryd.prog.info? 82).map (fun i => (i.zero, i.size, i.bytes)) = some (some (.pointer none), 1, 8) := by kernel_rfl

theorem assert82 (b : Nat) (w : World) : (Instr.typeAssert (.iface 82 (.pointer (some ⟨b, 0, none⟩))) 20 82 false).run Tryd.prog w = .ok (.pointer (some ⟨b, 0, none⟩)) w := by kernel_rfl

def OPushPost (w : World) (c s n : Nat) (cs : Array Value) (v mp at_ : Value) (xs : List Value) (e : Ending) (w' : World) : Prop :=
  e = .returned (.tuple #[]) ∧ ∃ g cap, w'.heap[c]? = some (.cells (cs.setIfInBounds 3 (.slice (some ⟨g, 0, none⟩) (n + 1) cap)) 79) ∧ w'.ownsRow 0 82 1 (.slice (some ⟨g, 0, none⟩) (n + 1) cap) (n + 1) (xs ++ [.pointer (some ⟨s, 0, none⟩)]) ∧
    w'.heap[s]? = some (.cells #[mp, at_, .int .i64 (n : Int)] 87) ∧ (v.ownBlock = some g ∨ w.heap.size ≤ g) ∧ Turn (fun x => x = c ∨ x = s ∨ v.ownBlock = some x) w w'

theorem _root_.Go.World.ownsRow.other {w w' : World} {base : Nat} {e : TypeId} {size : Nat} {v : Value} {n : Nat} {xs : List Value} (h : w.ownsRow base e size v n xs) (ho : ∀ g, v.ownBlock = some g → w'.heap[g]? = w.heap[g]?) : w'.ownsRow base e size v n xs := by
  refine ⟨h.1, ?_⟩
  rcases h.2 with h2 | ⟨g, cap, cur, rfl, hb, hg, r⟩
  · exact .inl h2
  · exact .inr ⟨g, cap, cur, rfl, hb, (ho g rfl).trans hg, r⟩

set_option maxRecDepth 100000 in
set_option maxHeartbeats 2000000 in
theorem opush_any (w : World) (c s n cap : Nat) (a : Option Addr) (cs : Array Value) (mp at_ sp : Value) (xs : List Value) (hc : w.heap[c]? = some (.cells cs 79)) (h3 : cs[3]? = some (.slice a n cap)) (hs : w.heap[s]? = some (.cells #[mp, at_, sp] 87))
    (hrow : w.ownsRow 0 82 1 (.slice a n cap) n xs) (hcs : c ≠ s) (hac : (Value.slice a n cap).ownBlock ≠ some c) (has : (Value.slice a n cap).ownBlock ≠ some s) (hn : n ≤ 1048576) :
    Calls Tryd.prog 132 #[.pointer (some ⟨c, 3, none⟩), .iface 82 (.pointer (some ⟨s, 0, none⟩))] w (OPushPost w c s n cs (.slice a n cap) mp at_ xs) := by
  obtain ⟨i0, hi0, hz0, hz1, hz2⟩ := info_parts info82
  have HIF := hid (And.intro hi0 (And.intro hz0 (And.intro hz1 hz2)))
  have k3 : w.cell? ⟨c, 3, none⟩ = some (.slice a n cap) := by rw [cell_of_row _ _ _ _ _ _ hc]; exact h3
  have ks : w.cell? ⟨s, 2, none⟩ = some sp := by rw [cell_of_row _ _ _ _ _ _ hs]; rfl
  have fs := frozen_of_row w s 2 _ _ hs
  have HH := hid (And.intro hc (And.intro h3 (And.intro hs (And.intro hrow (And.intro hac has)))))
  clear hi0 hz0 hz1 hz2 hc h3 hs hrow hac has
  have hta := assert82 s
  go_enter Tryd.func132, Tryd.ntmps132
  go_upto_region 2 with fail
  have hcs' : s ≠ c := hcs.symm
  have hc1 : (w.setCell ⟨s, 2, none⟩ (.int .i64 (n : Int))).heap[c]? = some (.cells cs 79) := (Below.heap_setCell _ _ _ _ hcs).trans HH.out.1
  have hs1 : (w.setCell ⟨s, 2, none⟩ (.int .i64 (n : Int))).heap[s]? = some (.cells #[mp, at_, .int .i64 (n : Int)] 87) := by rw [setCell_head HH.out.2.2.1]; rfl
  have hr1 : (w.setCell ⟨s, 2, none⟩ (.int .i64 (n : Int))).ownsRow 0 82 1 (.slice a n cap) n xs := HH.out.2.2.2.1.other (fun g hg => Below.heap_setCell _ _ _ _ (fun e => HH.out.2.2.2.2.2 (by rw [hg, e])))
  have ht1 : Turn (fun x => x = c ∨ x = s ∨ (Value.slice a n cap).ownBlock = some x) w (w.setCell ⟨s, 2, none⟩ (.int .i64 (n : Int))) := (Turn.refl _ w).but (But.setCell (But.refl s w) (.inl rfl) _) (.inl (.inr (.inl rfl)))
  have hz1 : (w.setCell ⟨s, 2, none⟩ (.int .i64 (n : Int))).heap.size = w.heap.size := by simp
  generalize w.setCell ⟨s, 2, none⟩ (.int .i64 (n : Int)) = w1 at *
  have q3 : w1.cell? ⟨c, 3, none⟩ = some (.slice a n cap) := by rw [cell_of_row _ _ _ _ _ _ hc1]; exact HH.out.2.1
  have H1 := hid (And.intro hc1 (And.intro hs1 (And.intro hr1 hz1)))
  clear hc1 hs1 hr1 hz1 k3 ks fs
  go_wp2_with (first
    | (at_builtin; refine wpList_append_lies _ rfl _ _ 77 rfl 0 82 i0 (.pointer none) 1 8 Tryd.underlying77 HIF.out.1 HIF.out.2.1 HIF.out.2.2.1 HIF.out.2.2.2 rfl (by decide) _ _ _ rfl (H1.out.2.2.1.alloc _) ⟨w1.heap.size, 0, none⟩ 1 1 [.pointer (some ⟨s, 0, none⟩)] rfl rfl ?c1 ?c2 (by decide) ?c3 ?c4 (Nat.zero_le _) _ rfl ?_)
    | fail)
  case c1 =>
    intro j u hj
    rw [addr_add, Nat.zero_add, cell_of_row _ _ _ _ _ _ (heap_alloc_new _ _), ← hj]
    match j, hj with
    | 0, _ => rfl
  case c2 =>
    intro u hu
    simp at hu
    rw [hu]; rfl
  case c3 => unfold maxLen; omega
  case c4 => omega
  intro g2 cap2 w2 hown2 hg2 hat2 hlt2
  have hb2 : Turn (fun x => x = c ∨ x = s ∨ (Value.slice a n cap).ownBlock = some x) w w2 := by
    refine (ht1.alloc _).trans ⟨hg2.os, hg2.tape, hg2.output, hg2.size, fun i hi hn => hg2.block i hi (fun e => hn (.inr (.inr e.symm)))⟩
  have hc2 : w2.heap[c]? = some (.cells cs 79) := by
    have hl : c < w1.heap.size := (Array.getElem?_eq_some_iff.1 H1.out.1).1
    rw [hg2.block c (by simp; omega) (fun e => HH.out.2.2.2.2.1 e.symm), Below.heap_alloc w1 _ c hl]
    exact H1.out.1
  have hs2 : w2.heap[s]? = some (.cells #[mp, at_, .int .i64 (n : Int)] 87) := by
    have hl : s < w1.heap.size := (Array.getElem?_eq_some_iff.1 H1.out.2.1).1
    rw [hg2.block s (by simp; omega) (fun e => HH.out.2.2.2.2.2 e.symm), Below.heap_alloc w1 _ s hl]
    exact H1.out.2.1
  have q2 : w2.cell? ⟨c, 3, none⟩ = some (.slice a n cap) := by rw [cell_of_row _ _ _ _ _ _ hc2]; exact HH.out.2.1
  have f2 := frozen_of_row w2 c 3 _ _ hc2
  have hgc : g2 ≠ c := by
    rintro rfl
    rcases hat2 with e | e
    · exact HH.out.2.2.2.2.1 e
    · have hl : g2 < w1.heap.size := (Array.getElem?_eq_some_iff.1 H1.out.1).1
      omega
  have H2 := hid (And.intro hown2 (And.intro hat2 (And.intro hc2 (And.intro hs2 hgc))))
  clear hown2 hg2 hat2 hc2 hs2 hgc ht1 q3
  go_wp2_with fail
  go_end0
  refine ⟨rfl, g2, cap2, setCell_head H2.out.2.2.1 _, H2.out.1.other (fun g hg => Below.heap_setCell _ _ _ _ (fun e => ?_)), (Below.heap_setCell _ _ _ _ hcs').trans H2.out.2.2.2.1, ?_, hb2.but (But.setCell (But.refl c w2) (.inl rfl) _) (.inl (.inl rfl))⟩
  · have e2 : g2 = g := by simpa [Value.ownBlock] using hg
    exact H2.out.2.2.2.2 (e2.trans e)
  · rcases H2.out.2.1 with e | e
    · exact .inl e
    · right
      have := H1.out.2.2.2
      omega
end Go.Proofs.YtohaoeilodebmaaDoor
