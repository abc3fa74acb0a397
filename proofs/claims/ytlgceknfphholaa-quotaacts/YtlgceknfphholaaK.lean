/- The acts that the laws are handed, in memory, and read out of it as the statements read them. -/
import Derived.Test.YtlgceknfphholaaJ
import Derived.ProofKit
import Derived.OpenShut
import Derived.ShutString
import Derived.ChangeOld
import Derived.Deep.Slices
namespace Go.Proofs.Ytlgceknfphholaa
open Go.ChangeShapes Go.WideShapes Go.ChangeAt Go.RowKit

structure Deed where
  kind : Int
  id : Int
  n : Int

structure DeedAt (w : World) (s p : Nat) (x : Deed) : Prop where
  c0 : w.cell? ⟨s, p, none⟩ = some (.int .i64 x.kind)
  c1 : w.cell? ⟨s, p + 1, none⟩ = some (.int .i64 x.id)
  c2 : w.cell? ⟨s, p + 2, none⟩ = some (.int .i64 x.n)

/-- The slice has so many acts, in memory that was there when block number B was the next one. -/
def Acts (w : World) (B : Nat) (a : Option Addr) (len : Nat) : Prop := len = 0 ∨ ∃ s o, a = some ⟨s, o, none⟩ ∧ s < B ∧ ∀ i, i < len → ∃ x, DeedAt w s (o + i * 3) x
theorem Acts.at {w w' : World} {B i : Nat} {a : Option Addr} {len : Nat} (h : Acts w B a len) (hb : Below B w w') (hi : i < len) : ∃ s o x, a = some ⟨s, o, none⟩ ∧ DeedAt w' s (o + i * 3) x ∧ s < B := by
  rcases h with h | ⟨s, o, rfl, hs, h⟩
  · omega
  · obtain ⟨x, hx⟩ := h i hi
    exact ⟨s, o, x, rfl, ⟨(hb.cell (p := ⟨s, o + i * 3, none⟩) hs).trans hx.c0, (hb.cell (p := ⟨s, o + i * 3 + 1, none⟩) hs).trans hx.c1, (hb.cell (p := ⟨s, o + i * 3 + 2, none⟩) hs).trans hx.c2⟩, hs⟩

theorem cells3 : Try.prog.cellsOf 3 = 1 := by kernel_rfl
theorem cells38 : Try.prog.cellsOf 38 = 3 := by kernel_rfl

section
variable {H : Type} {enc : TypeId × Value → H} {w : World}
theorem act_of {fuel : Nat} {cs : List Value} {x : DataW H × List MemPlace} {s p : Nat} (h : DataW.trod enc Try.prog w 0 (fun _ => true) true fuel 38 cs = some x) (hc : ∀ j, j < 3 → w.cell? ⟨s, p + j, none⟩ = cs[j]?) :
    ∃ y, DeedAt w s p y := by
  obtain ⟨xs, n, _, _, hl, hlen, hf⟩ := DataW.trod_struct Try.underlying38 h
  rw [cells38] at hl
  match cs, hl with
  | [v0, v1, v2], _ =>
    match xs, hlen with
    | [y0, y1, y2], _ =>
      have f0 : DataW.trod enc Try.prog w 0 (fun _ => true) true n 3 (([v0, v1, v2].drop 0).take (Try.prog.cellsOf 3)) = some y0 := hf 0 _ rfl
      rw [cells3] at f0
      have f1 : DataW.trod enc Try.prog w 0 (fun _ => true) true n 3 (([v0, v1, v2].drop 1).take (Try.prog.cellsOf 3)) = some y1 := hf 1 _ rfl
      rw [cells3] at f1
      have f2 : DataW.trod enc Try.prog w 0 (fun _ => true) true n 3 (([v0, v1, v2].drop 2).take (Try.prog.cellsOf 3)) = some y2 := hf 2 _ rfl
      rw [cells3] at f2
      obtain ⟨k0, e0, _, _⟩ := DataW.trod_int Try.underlying3 f0
      obtain ⟨k1, e1, _, _⟩ := DataW.trod_int Try.underlying3 f1
      obtain ⟨k2, e2, _, _⟩ := DataW.trod_int Try.underlying3 f2
      simp at e0 e1 e2
      subst e0 e1 e2
      exact ⟨⟨k0, k1, k2⟩, hc 0 (by omega), hc 1 (by omega), hc 2 (by omega)⟩

theorem acts_of {fuel : Nat} {a : Option Addr} {len cap : Nat} {x : DataW H × List MemPlace} (h : DataW.trod enc Try.prog w 0 (fun _ => true) true fuel 22 [.slice a len cap] = some x) : Acts w w.heap.size a len := by
  rcases Deep.open_slice Try.underlying22 h with ⟨hcs, _⟩ | ⟨b, l, c, m, n, D, Pl, hcs, _, hl, hm, hmm, _, hx⟩
  · obtain ⟨rfl, rfl, rfl⟩ : a = none ∧ len = 0 ∧ cap = 0 := by simpa using hcs
    exact .inl rfl
  · obtain ⟨rfl, rfl, rfl⟩ : a = some b ∧ len = l ∧ cap = c := by simpa using hcs
    simp only [if_true] at hmm
    subst hmm
    by_cases h0 : len = 0
    · exact .inl h0
    rw [cells38] at hx
    obtain ⟨cs0, hc0, ht0⟩ := hx 0 (by omega)
    obtain ⟨_, hl0, hcell0⟩ := World.cells?_some hc0
    obtain ⟨s, o, spot⟩ := b
    have hsp : spot = none := by
      have h1 := hcell0 0 (by omega)
      rw [List.getElem?_eq_getElem (by omega)] at h1
      have := World.cell?_spot h1
      simpa [Addr.add] using this
    subst hsp
    refine .inr ⟨s, o, rfl, ?_, ?_⟩
    · have h1 := hcell0 0 (by omega)
      rw [List.getElem?_eq_getElem (by omega), Nat.zero_mul, addr_add, addr_add] at h1
      exact block_lt_of_cell h1
    · intro i hi
      obtain ⟨cs, hc, ht⟩ := hx i (by omega)
      obtain ⟨_, hl1, hcell⟩ := World.cells?_some hc
      refine act_of ht (fun j hj => ?_)
      have := hcell j hj
      rw [addr_add, addr_add] at this
      exact this
end

/-- The numbers of all factories, as Ids answers them. -/
theorem ids_row {w : World} {base : Nat} {v : Value} {l : List Fac} (h : w.ownsRow base 3 1 v (l.map Fac.id).length (nats (l.map Fac.id))) (hl : 0 < l.length) : ∃ g cv, v = .slice (some ⟨g, 0, none⟩) l.length cv ∧ base ≤ g ∧ g < w.heap.size ∧ ∀ (t : Nat) (f : Fac), l[t]? = some f → w.cell? ⟨g, t, none⟩ = some (.int .i64 (f.id : Int)) := by
  obtain ⟨av, cv, rfl, hc⟩ := row_cells h
  have hget : ∀ (t : Nat) (f : Fac), l[t]? = some f → (nats (l.map Fac.id))[t]? = some (Value.int .i64 (f.id : Int)) := fun t f hf => by
    unfold nats; rw [List.getElem?_map, List.getElem?_map, hf]; rfl
  obtain ⟨f, hf⟩ : ∃ f, l[0]? = some f := ⟨_, List.getElem?_eq_getElem hl⟩
  obtain ⟨g, rfl, _⟩ := hc 0 _ (hget 0 f hf)
  obtain ⟨h1, h2⟩ := own_block h g rfl
  refine ⟨g, cv, by rw [List.length_map], h1, h2, fun t f hf => ?_⟩
  obtain ⟨g', e, h3⟩ := hc t _ (hget t f hf)
  obtain rfl : g = g' := by simpa using e
  exact h3
theorem Inv.pos {N nxt : Nat} {l : List Fac} (h : Inv N l nxt) : 0 < l.length := by
  obtain ⟨f, hf, _⟩ := h.root
  exact List.length_pos_of_mem hf

theorem unblock {P : Program} {s : Code} {K : Act → World → Prop} {Q : Exit → Act → World → Prop} {n : Nat} {a : Act} {w : World} (h : s.wp P (Exit.then K (Exit.inBlock n (Exit.then K Q))) a w) : s.wp P (Exit.inBlock n (Exit.then K Q)) a w := by
  refine wp_mono h ?_
  intro e a' w' hq
  cases e <;> exact hq

section
variable {N : Nat} {v w : World} {p nxt : Nat} {l : List Fac}
theorem St.drewN (h : St N v w p l nxt) (k : Nat) : St N v (w.drewN k) p l nxt := ⟨h.mem.below ⟨rfl, rfl, rfl, Nat.le_refl _, fun _ _ => rfl⟩, h.inv, Below.drewN h.bel k⟩
theorem St.low (h : St N v w p l nxt) : v.heap.size ≤ w.heap.size := h.bel.size
/-- The calls, in every world in which nothing of this one has turned. -/
theorem St.reads (h : St N v w p l nxt) {f : Fac} (hf : f ∈ l) : chgA l f.id = f.chg ∧ limA l f.id = f.lim ∧ parA l f.id = f.par ∧ useA l f.id = useOf l f := by
  have e := the_mem h.inv.up hf
  unfold chgA limA parA useA
  rw [e]
  exact ⟨rfl, rfl, rfl, rfl⟩
end
end Go.Proofs.Ytlgceknfphholaa
