/- The acts that the laws are handed, in memory. -/
import Derived.Test.YtoahfeckadaomaaR4
import Derived.ProofKit
import Derived.OpenShut
import Derived.ShutString
import Derived.ChangeOld
import Derived.Deep.Slices
namespace Go.Proofs.Ytoahfeckadaomaa
open Go.ChangeShapes Go.WideShapes Go.ChangeAt Go.RowKit

structure Deed where
  kind : Int
  n : Int
  h : Nat
  o : Ob

structure DeedAt (w : World) (s p : Nat) (x : Deed) : Prop where
  c0 : w.cell? ⟨s, p, none⟩ = some (.int .i64 x.kind)
  c1 : w.cell? ⟨s, p + 1, none⟩ = some (.int .i64 x.n)
  c2 : w.cell? ⟨s, p + 2, none⟩ = some (.int .u32 (x.h : Int))
  c3 : w.cell? ⟨s, p + 3, none⟩ = some (.int .i64 x.o.k)
  c4 : w.cell? ⟨s, p + 4, none⟩ = some (.int .i64 x.o.a)
  c5 : w.cell? ⟨s, p + 5, none⟩ = some (.int .i64 x.o.f)
  lt : x.h < 4294967296
  bk : -9223372036854775808 ≤ x.kind ∧ x.kind ≤ 9223372036854775807

/-- The slice has so many acts, in memory that was there when block number B was the next one. -/
def Acts (w : World) (B : Nat) (a : Option Addr) (len : Nat) : Prop := len = 0 ∨ ∃ s o, a = some ⟨s, o, none⟩ ∧ s < B ∧ ∀ i, i < len → ∃ x, DeedAt w s (o + i * 6) x
theorem Acts.at {w w' : World} {B i : Nat} {a : Option Addr} {len : Nat} (h : Acts w B a len) (hb : Below B w w') (hi : i < len) : ∃ s o x, a = some ⟨s, o, none⟩ ∧ DeedAt w' s (o + i * 6) x ∧ s < B := by
  rcases h with h | ⟨s, o, rfl, hs, h⟩
  · omega
  · obtain ⟨x, hx⟩ := h i hi
    exact ⟨s, o, x, rfl, ⟨(hb.cell (p := ⟨s, o + i * 6, none⟩) hs).trans hx.c0, (hb.cell (p := ⟨s, o + i * 6 + 1, none⟩) hs).trans hx.c1, (hb.cell (p := ⟨s, o + i * 6 + 2, none⟩) hs).trans hx.c2, (hb.cell (p := ⟨s, o + i * 6 + 3, none⟩) hs).trans hx.c3, (hb.cell (p := ⟨s, o + i * 6 + 4, none⟩) hs).trans hx.c4, (hb.cell (p := ⟨s, o + i * 6 + 5, none⟩) hs).trans hx.c5, hx.lt, hx.bk⟩, hs⟩

theorem cells3 : Try.prog.cellsOf 3 = 1 := by kernel_rfl
theorem cells25 : Try.prog.cellsOf 25 = 1 := by kernel_rfl
theorem cells31' : Try.prog.cellsOf 31 = 3 := by kernel_rfl
theorem cells46 : Try.prog.cellsOf 46 = 6 := by kernel_rfl

section
variable {H : Type} {enc : TypeId × Value → H} {w : World}
theorem act_of {fuel : Nat} {cs : List Value} {x : DataW H × List MemPlace} {s p : Nat} (h : DataW.trod enc Try.prog w 0 (fun _ => true) true fuel 46 cs = some x) (hc : ∀ j, j < 6 → w.cell? ⟨s, p + j, none⟩ = cs[j]?) :
    ∃ y, DeedAt w s p y := by
  obtain ⟨xs, n, _, _, hl, hlen, hf⟩ := DataW.trod_struct Try.underlying46 h
  rw [cells46] at hl
  match cs, hl with
  | [v0, v1, v2, v3, v4, v5], _ =>
    match xs, hlen with
    | [y0, y1, y2, y3], _ =>
      have f0 : DataW.trod enc Try.prog w 0 (fun _ => true) true n 3 (([v0, v1, v2, v3, v4, v5].drop 0).take (Try.prog.cellsOf 3)) = some y0 := hf 0 _ rfl
      rw [cells3] at f0
      have f1 : DataW.trod enc Try.prog w 0 (fun _ => true) true n 3 (([v0, v1, v2, v3, v4, v5].drop 1).take (Try.prog.cellsOf 3)) = some y1 := hf 1 _ rfl
      rw [cells3] at f1
      have f2 : DataW.trod enc Try.prog w 0 (fun _ => true) true n 25 (([v0, v1, v2, v3, v4, v5].drop 2).take (Try.prog.cellsOf 25)) = some y2 := hf 2 _ rfl
      rw [cells25] at f2
      have f3 : DataW.trod enc Try.prog w 0 (fun _ => true) true n 31 (([v0, v1, v2, v3, v4, v5].drop 3).take (Try.prog.cellsOf 31)) = some y3 := hf 3 _ rfl
      rw [cells31'] at f3
      obtain ⟨k0, e0, _, w0⟩ := DataW.trod_int Try.underlying3 f0
      obtain ⟨k1, e1, _, _⟩ := DataW.trod_int Try.underlying3 f1
      obtain ⟨k2, e2, _, w2⟩ := DataW.trod_int Try.underlying25 f2
      obtain ⟨zs, m, _, _, zl, zlen, zf⟩ := DataW.trod_struct Try.underlying31 f3
      match zs, zlen with
      | [z0, z1, z2], _ =>
        have g0 : DataW.trod enc Try.prog w 0 (fun _ => true) true m 3 (([v3, v4, v5].drop 0).take (Try.prog.cellsOf 3)) = some z0 := zf 0 _ rfl
        rw [cells3] at g0
        have g1 : DataW.trod enc Try.prog w 0 (fun _ => true) true m 3 (([v3, v4, v5].drop 1).take (Try.prog.cellsOf 3)) = some z1 := zf 1 _ rfl
        rw [cells3] at g1
        have g2 : DataW.trod enc Try.prog w 0 (fun _ => true) true m 3 (([v3, v4, v5].drop 2).take (Try.prog.cellsOf 3)) = some z2 := zf 2 _ rfl
        rw [cells3] at g2
        obtain ⟨k3, e3, _, _⟩ := DataW.trod_int Try.underlying3 g0
        obtain ⟨k4, e4, _, _⟩ := DataW.trod_int Try.underlying3 g1
        obtain ⟨k5, e5, _, _⟩ := DataW.trod_int Try.underlying3 g2
        simp at e0 e1 e2 e3 e4 e5
        subst e0 e1 e2 e3 e4 e5
        have hb : 0 ≤ k2 ∧ k2 ≤ 4294967295 := by simp [Lit.wf, IntKind.min, IntKind.max, IntKind.signed, IntKind.bits] at w2; omega
        have hk : -9223372036854775808 ≤ k0 ∧ k0 ≤ 9223372036854775807 := by simp [Lit.wf, IntKind.min, IntKind.max, IntKind.signed, IntKind.bits] at w0; omega
        obtain ⟨h2, rfl⟩ := Int.eq_ofNat_of_zero_le hb.1
        exact ⟨⟨k0, k1, h2, ⟨k3, k4, k5⟩⟩, hc 0 (by omega), hc 1 (by omega), hc 2 (by omega), hc 3 (by omega), hc 4 (by omega), hc 5 (by omega), by show h2 < _; omega, hk⟩

theorem acts_of {fuel : Nat} {a : Option Addr} {len cap : Nat} {x : DataW H × List MemPlace} (h : DataW.trod enc Try.prog w 0 (fun _ => true) true fuel 22 [.slice a len cap] = some x) : Acts w w.heap.size a len := by
  rcases Deep.open_slice Try.underlying22 h with ⟨hcs, _⟩ | ⟨b, l, c, m, n, D, Pl, hcs, _, hl, hm, hmm, _, hx⟩
  · obtain ⟨rfl, rfl, rfl⟩ : a = none ∧ len = 0 ∧ cap = 0 := by simpa using hcs
    exact .inl rfl
  · obtain ⟨rfl, rfl, rfl⟩ : a = some b ∧ len = l ∧ cap = c := by simpa using hcs
    simp only [if_true] at hmm
    subst hmm
    by_cases h0 : len = 0
    · exact .inl h0
    rw [cells46] at hx
    obtain ⟨cs0, hc0, ht0⟩ := hx 0 (by omega)
    obtain ⟨_, hl0, hcell0⟩ := World.cells?_some hc0
    obtain ⟨s, o, spot⟩ := b
    have hsp : spot = none := by
      have h1 := hcell0 0 (by omega)
      rw [List.getElem?_eq_getElem (by omega)] at h1
      have := World.cell?_spot h1
      simpa [Addr.add] using this
    subst hsp
    refine .inr ⟨s, o, rfl, ?_, ?_⟩
    · have h1 := hcell0 0 (by omega)
      rw [List.getElem?_eq_getElem (by omega), Nat.zero_mul, addr_add, addr_add] at h1
      exact block_lt_of_cell h1
    · intro i hi
      obtain ⟨cs, hc, ht⟩ := hx i (by omega)
      obtain ⟨_, hl1, hcell⟩ := World.cells?_some hc
      refine act_of ht (fun j hj => ?_)
      have := hcell j hj
      rw [addr_add, addr_add] at this
      exact this
end

theorem unblock {P : Program} {s : Code} {K : Act → World → Prop} {Q : Exit → Act → World → Prop} {n : Nat} {a : Act} {w : World} (h : s.wp P (Exit.then K (Exit.inBlock n (Exit.then K Q))) a w) : s.wp P (Exit.inBlock n (Exit.then K Q)) a w := by
  refine wp_mono h ?_
  intro e a' w' hq
  cases e <;> exact hq

def zr : Array Value := Array.replicate 1280 (.int .i64 0)
theorem zero44 (w : World) : (zeroValue 44).run Try.prog w = .ok (.agg zr) w := by kernel_rfl
theorem zr_get (i : Nat) (hi : i < 1280) : zr[i]? = some (.int .i64 0) := by
  unfold zr
  rw [Array.getElem?_replicate, if_pos hi]
theorem zr_rr : Rr zr T0 := ⟨by unfold zr; simp, fun i hi => zr_get _ (by omega), fun i hi => zr_get _ (by omega), fun i hi h => by rcases h with h | h <;> cases h⟩
theorem Rb.new (w : World) : Rb (w.alloc (.cells zr 44)) w.heap.size T0 := ⟨zr, heap_alloc_new _ _, zr_rr⟩

/-- Both tables: the program's at b, the document's at r. -/
structure Two (v w : World) (b r : Nat) (T : Nat → Pl) : Prop where
  ht : Ht v w b T
  rb : Rb w r T
  le : v.heap.size ≤ r
  ne : r ≠ b
section
variable {v w w' : World} {b r : Nat} {T : Nat → Pl}
theorem Ht.but' {T' : Nat → Pl} (h : Ht v w b T') (_ : Rb w' r T') (hb : But r w w') (hle : v.heap.size ≤ r) (hne : r ≠ b) : Ht v w' b T' :=
  ⟨h.tb.same (hb.block b h.tb.lt (fun e => hne e.symm)), h.wf, Below.of_but h.bel h.bel.size hb hle, h.le⟩
theorem Two.below (h : Two v w b r T) (hb : Below w.heap.size w w') : Two v w' b r T := ⟨h.ht.below hb, h.rb.below hb, h.le, h.ne⟩
theorem Two.alloc (h : Two v w b r T) (o : Obj) : Two v (w.alloc o) b r T := h.below ((Below.refl _ w).alloc (Nat.le_refl _) _)
theorem Two.drewN (h : Two v w b r T) (q : Nat) : Two v (w.drewN q) b r T := h.below (Below.drewN (Below.refl _ w) q)
theorem Two.drew (h : Two v w b r T) : Two v w.drew b r T := h.below (Below.drew (Below.refl _ w))
theorem Two.low (h : Two v w b r T) : Below v.heap.size v w := h.ht.bel
/-- The program's table has turned, the document's not yet. -/
structure Mid (v w : World) (b r : Nat) (T T' : Nat → Pl) : Prop where
  ht : Ht v w b T'
  rb : Rb w r T
  wf : Wf T
  le : v.heap.size ≤ r
  ne : r ≠ b
theorem Two.mid {T' : Nat → Pl} (h : Two v w b r T) (ht : Ht v w' b T') (hb : But b w w') : Mid v w' b r T T' := ⟨ht, h.rb.same (hb.block r h.rb.lt h.ne), h.ht.wf, h.le, h.ne⟩
theorem Mid.two {T' : Nat → Pl} (h : Mid v w b r T T') (hr : Rb w' r T') (hb : But r w w') : Two v w' b r T' :=
  ⟨h.ht.but' hr hb h.le h.ne, hr, h.le, h.ne⟩
end
end Go.Proofs.Ytoahfeckadaomaa
