/- The library's heap over the open slabs: Push puts a slab where it belongs. -/
import Derived.Test.YtohaoeilodebmaaDoorS5
namespace Go.Proofs.YtohaoeilodebmaaDoor
open Go.RowKit Go.Maps

def HPushPost (w : World) (c n cap p : Nat) (a : Option Addr) (L sb bm : Nat → Nat) (e : Ending) (w' : World) : Prop :=
  e = .returned (.tuple #[]) ∧ ∃ g cap2 L', Hc w' c g cap2 (n + 1) L' sb bm ∧ Hpo L' (n + 1) ∧ SameSet (ext L n p) L' (n + 1) ∧ (a = some ⟨g, 0, none⟩ ∨ w.heap.size ≤ g) ∧
    Turn (fun x => x = c ∨ x = sb p ∨ (Value.slice a n cap).ownBlock = some x ∨ ∃ k, k < n ∧ x = sb (L k)) w w' ∧ (∀ cs, w.heap[c]? = some (.cells cs 79) → w'.heap[c]? = some (.cells (cs.setIfInBounds 3 (.slice (some ⟨g, 0, none⟩) (n + 1) cap2)) 79))

set_option maxRecDepth 100000 in
set_option maxHeartbeats 2000000 in
theorem hpush_any (w : World) (c n cap p : Nat) (a : Option Addr) (cs : Array Value) (L sb bm : Nat → Nat) (sp : Value) (hc : w.heap[c]? = some (.cells cs 79)) (h3 : cs[3]? = some (.slice a n cap)) (ho : Opn w c n cap a L sb bm) (hh : Hpo L n)
    (hs : w.heap[sb p]? = some (.cells #[.pointer (some ⟨bm p, 0, none⟩), .int .i64 ((p * 1024 : Nat) : Int), sp] 87)) (hpc : sb p ≠ c) (hpg : (Value.slice a n cap).ownBlock ≠ some (sb p)) (hac : (Value.slice a n cap).ownBlock ≠ some c) (hnew : ∀ k, k < n → sb (L k) ≠ sb p) (hn : n < 1048576) :
    Calls Tryd.prog 54 #[.iface 89 (.pointer (some ⟨c, 3, none⟩)), .iface 82 (.pointer (some ⟨sb p, 0, none⟩))] w (HPushPost w c n cap p a L sb bm) := by
  have hmp := meth_push ⟨c, 3, none⟩ w
  have hcl : c < w.heap.size := (Array.getElem?_eq_some_iff.1 hc).1
  have hpl : sb p < w.heap.size := (Array.getElem?_eq_some_iff.1 hs).1
  have hsz : 3 < cs.size := (Array.getElem?_eq_some_iff.1 h3).1
  have hcon := opush_any w c (sb p) n cap a cs _ _ sp (ptrsOf n L sb) hc h3 hs ho.row (fun e => hpc e.symm) hac hpg (by omega)
  have HC := hid hcon
  have HH := hid (And.intro hc (And.intro ho (And.intro hh (And.intro hpg hnew))))
  obtain ⟨s, hse⟩ : ∃ s, s = sb p := ⟨_, rfl⟩
  rw [← hse] at HC hpc hpl ⊢
  have HS := hid hse
  clear hcon hc ho hh hs hpg hnew hac hse h3
  go_enter Tryd.func54, Tryd.ntmps54
  go_wp2_with fail
  refine HC.out.mono ?_
  rintro e w1 ⟨rfl, g, cap2, hc1, hr1, hs1, hat, ht1⟩
  rw [HS.out] at hr1 hs1 ht1
  have H1 : Hid (Hc w1 c g cap2 (n + 1) (ext L n p) sb bm) := HH.out.2.1.pushed hsz hc1 hr1 hs1 hat ht1 HH.out.2.2.2.2 (by rw [← HS.out]; exact hpc) (by rw [← HS.out]; exact hpl) hcl HH.out.2.2.2.1 hn
  have hml := meth_len ⟨c, 3, none⟩ w1 _ _ _ H1.out.cell
  have hn1 : ((n + 1 : Nat) : Int) - 1 = (n : Int) := by omega
  have HX := hid (And.intro hc1 (And.intro hat ht1))
  clear hc1 hr1 hs1 hat ht1 hmp
  go_wp2_with fail
  refine (olen_any _ _ _ _).mono ?_
  rintro e w2 ⟨rfl, rfl⟩
  go_wp2_with fail
  refine (up_any w2 c g cap2 (n + 1) (ext L n p) sb bm n (n + 1) H1.out HH.out.2.2.1.ext (by omega) (Nat.le_refl _)).mono ?_
  rintro e w3 ⟨rfl, L', hH3, hp3, hs3, _, ht3⟩
  have H3 := hid (And.intro hH3 (And.intro hp3 (And.intro hs3 ht3)))
  clear hH3 hp3 hs3 ht3
  go_wp2_with fail
  go_end0
  obtain ⟨hc1, hat, ht1⟩ := HX.out
  obtain ⟨hH3, hp3, hs3, ht3⟩ := H3.out
  have hta : Turn (fun x => x = c ∨ x = sb p ∨ (Value.slice a n cap).ownBlock = some x ∨ ∃ k, k < n ∧ x = sb (L k)) w w2 := ht1.wide (by
    rintro x (e | e | e)
    · exact .inl e
    · exact .inr (.inl e)
    · exact .inr (.inr (.inl e)))
  have hsize := ht1.size
  refine ⟨rfl, g, cap2, L', hH3, hp3, hs3, ?_, ⟨ht3.os.trans hta.os, ht3.tape.trans hta.tape, ht3.output.trans hta.output, Nat.le_trans hta.size ht3.size, fun i hi hne => ?_⟩, fun cs2 hcs2 => ?_⟩
  · rcases hat with e | e
    · left
      cases a with
      | none => cases e
      | some ad =>
        rcases HH.out.2.1 with ⟨e1, _⟩ | ⟨g0, e1, _⟩
        · cases e1
        · obtain rfl : ad = ⟨g0, 0, none⟩ := by simpa using e1
          have : g0 = g := by simpa [Value.ownBlock] using e
          rw [this]
    · exact .inr e
  · rw [ht3.block i (by omega) ?_]
    · exact hta.block i hi hne
    · rintro (e | ⟨k, hk, e⟩)
      · rcases hat with e1 | e1
        · exact hne (.inr (.inr (.inl (by rw [e]; exact e1))))
        · omega
      · by_cases ek : k = n
        · rw [ek, ext_l] at e
          exact hne (.inr (.inl e))
        · rw [ext_o L ek] at e
          exact hne (.inr (.inr (.inr ⟨k, by omega, e⟩)))
  · have hcc : w3.heap[c]? = w2.heap[c]? := ht3.block c (by omega) (by
      rintro (e | ⟨k, hk, e⟩)
      · exact H1.out.cg e
      · exact H1.out.cs k hk e.symm)
    obtain rfl : cs = cs2 := by
      rw [HH.out.1] at hcs2
      simpa using hcs2
    exact hcc.trans hc1
end Go.Proofs.YtohaoeilodebmaaDoor
