/- A cache in memory: its map of slabs, its slabs, its open ones. -/
import Derived.Test.YtohaoeilodebmaaDoorS12
import Derived.Test.YtohaoeilodebmaaDoorVa
import Derived.Maps.OwnSet
namespace Go.Proofs.YtohaoeilodebmaaDoor
open Go.RowKit Go.Maps

theorem ne_cells {w : World} {x y : Nat} {cs cs' : Array Value} {t t' : TypeId} (hx : w.heap[x]? = some (.cells cs t)) (hy : w.heap[y]? = some (.cells cs' t')) (h : t ≠ t') : x ≠ y := fun e => by
  subst e
  rw [hx] at hy
  exact h (Obj.cells.inj (Option.some.inj hy)).2.1
theorem ne_map {w : World} {x y : Nat} {cs : Array Value} {t : TypeId} {P : Program} {k : TypeId} {R : Value → Option (DataW Unit × List MemPlace)} {n : Nat} {D : DataW Unit} (hx : w.heap[x]? = some (.cells cs t)) (hy : w.ownsMap P k R y n D) : x ≠ y := fun e => by
  obtain ⟨es, cl, hb, _⟩ := hy
  subst e
  rw [hx] at hb
  cases Option.some.inj hb
theorem lt_of {w : World} {x : Nat} {o : Obj} (h : w.heap[x]? = some o) : x < w.heap.size := (Array.getElem?_eq_some_iff.1 h).1

theorem Opn.other {w w' : World} {c nn cap : Nat} {a : Option Addr} {L sb bm : Nat → Nat} (h : Opn w c nn cap a L sb bm) (hc : w'.heap[c]? = w.heap[c]?) (hg : ∀ ad, a = some ad → w'.heap[ad.block]? = w.heap[ad.block]?) (hs : ∀ k, k < nn → w'.heap[sb (L k)]? = w.heap[sb (L k)]?) : Opn w' c nn cap a L sb bm := by
  rcases h with e | ⟨g, e, hH⟩
  · exact .inl e
  · refine .inr ⟨g, e, (World.cell?_of_block hc).trans hH.cell, hH.mem.other (fun x hx => ?_), hH.cg, hH.cs, hH.few⟩
    rcases hx with rfl | ⟨k, hk, rfl⟩
    · exact hg _ e
    · exact hs k hk
theorem Opn.congr {w : World} {c nn cap : Nat} {a : Option Addr} {L sb bm sb' bm' : Nat → Nat} (h : Opn w c nn cap a L sb bm) (hs : ∀ k, k < nn → sb' (L k) = sb (L k) ∧ bm' (L k) = bm (L k)) : Opn w c nn cap a L sb' bm' := by
  rcases h with e | ⟨g, e, hH⟩
  · exact .inl e
  · obtain ⟨cur, hb, h1, h2⟩ := hH.mem.body
    refine .inr ⟨g, e, hH.cell, ⟨⟨cur, hb, h1, fun k hk => by rw [(hs k hk).1]; exact h2 k hk⟩, fun k hk => by rw [(hs k hk).1, (hs k hk).2]; exact hH.mem.slab k hk, fun i j hi hj he => hH.mem.one i j hi hj (by rw [← (hs i hi).1, ← (hs j hj).1]; exact he), fun k hk => by rw [(hs k hk).1]; exact hH.mem.gap k hk, hH.mem.len, hH.mem.small⟩, hH.cg, fun k hk => by rw [(hs k hk).1]; exact hH.cs k hk, hH.few⟩

/-- The cache at block c over the allocator at block p: places of the size sz, m on a page; the pages that are slabs (S), each with its block (sb), its bits (bm, gm, ws), those that stand in the heap (O), and which places are used (U). -/
structure Ca (w : World) (c p sz m mb nm : Nat) (D : DataW Unit) (a : Option Addr) (cap nn : Nat) (L sb bm gm : Nat → Nat) (ws : Nat → List Nat) (S O : Nat → Prop) (U : Pls) : Prop where
  head : w.heap[c]? = some (.cells #[.pointer (some ⟨p, 0, none⟩), .int .i64 (sz : Int), .map (some mb), .slice a nn cap] 79)
  map : Pmap w mb nm D
  says : Says D S sb
  slab : ∀ q, S q → ∃ sp, w.heap[sb q]? = some (.cells #[.pointer (some ⟨bm q, 0, none⟩), .int .i64 ((q * 1024 : Nat) : Int), sp] 87)
  bits : ∀ q, S q → Bits w (bm q) (gm q) m (ws q)
  bit_ : ∀ q, S q → ∀ i, i < m → bit (ws q) i = U q i
  opn : Opn w c nn cap a L sb bm
  heap : Hpo L nn
  inn : ∀ q, (∃ k, k < nn ∧ L k = q) ↔ O q
  os : ∀ q, O q → S q
  oneb : ∀ q r, S q → S r → bm q = bm r → q = r
  oneg : ∀ q r, S q → S r → gm q = gm r → q = r

/-- The blocks that are its own. -/
def Ow (c mb : Nat) (a : Option Addr) (sb bm gm : Nat → Nat) (S : Nat → Prop) (x : Nat) : Prop :=
  x = c ∨ x = mb ∨ (∃ ad, a = some ad ∧ x = ad.block) ∨ ∃ q, S q ∧ (x = sb q ∨ x = bm q ∨ x = gm q)

section
variable {w w' : World} {c p sz m mb nm : Nat} {D : DataW Unit} {a : Option Addr} {cap nn : Nat} {L sb bm gm : Nat → Nat} {ws : Nat → List Nat} {S O : Nat → Prop} {U : Pls}
theorem Ca.c0 (h : Ca w c p sz m mb nm D a cap nn L sb bm gm ws S O U) : w.cell? ⟨c, 0, none⟩ = some (.pointer (some ⟨p, 0, none⟩)) := by rw [cell_of_row w c 0 _ _ _ h.head]; rfl
theorem Ca.c1 (h : Ca w c p sz m mb nm D a cap nn L sb bm gm ws S O U) : w.cell? ⟨c, 1, none⟩ = some (.int .i64 (sz : Int)) := by rw [cell_of_row w c 1 _ _ _ h.head]; rfl
theorem Ca.c2 (h : Ca w c p sz m mb nm D a cap nn L sb bm gm ws S O U) : w.cell? ⟨c, 2, none⟩ = some (.map (some mb)) := by rw [cell_of_row w c 2 _ _ _ h.head]; rfl
theorem Ca.c3 (h : Ca w c p sz m mb nm D a cap nn L sb bm gm ws S O U) : w.cell? ⟨c, 3, none⟩ = some (.slice a nn cap) := by rw [cell_of_row w c 3 _ _ _ h.head]; rfl
theorem Ca.s0 (h : Ca w c p sz m mb nm D a cap nn L sb bm gm ws S O U) {q : Nat} (hq : S q) : w.cell? ⟨sb q, 0, none⟩ = some (.pointer (some ⟨bm q, 0, none⟩)) := by
  obtain ⟨sp, hs⟩ := h.slab q hq
  rw [cell_of_row w _ 0 _ _ _ hs]; rfl
theorem Ca.s1 (h : Ca w c p sz m mb nm D a cap nn L sb bm gm ws S O U) {q : Nat} (hq : S q) : w.cell? ⟨sb q, 1, none⟩ = some (.int .i64 ((q * 1024 : Nat) : Int)) := by
  obtain ⟨sp, hs⟩ := h.slab q hq
  rw [cell_of_row w _ 1 _ _ _ hs]; rfl
theorem Ca.ones (h : Ca w c p sz m mb nm D a cap nn L sb bm gm ws S O U) {q r : Nat} (hq : S q) (hr : S r) (e : sb q = sb r) : q = r := by
  have h1 := h.s1 hq
  have h2 := h.s1 hr
  rw [e, h2] at h1
  have : ((r * 1024 : Nat) : Int) = ((q * 1024 : Nat) : Int) := by simpa using h1
  omega
theorem Ca.row (h : Ca w c p sz m mb nm D a cap nn L sb bm gm ws S O U) {ad : Addr} (e : a = some ad) : ∃ cur, w.heap[ad.block]? = some (.cells cur 82) := by
  rcases h.opn with ⟨e2, _⟩ | ⟨g, e2, hH⟩
  · rw [e2] at e; cases e
  · rw [e2] at e; cases e
    obtain ⟨cur, hb, _⟩ := hH.mem.body
    exact ⟨cur, hb⟩
theorem Ca.inS (h : Ca w c p sz m mb nm D a cap nn L sb bm gm ws S O U) {k : Nat} (hk : k < nn) : S (L k) := h.os _ ((h.inn _).1 ⟨k, hk, rfl⟩)
theorem Ca.lt (h : Ca w c p sz m mb nm D a cap nn L sb bm gm ws S O U) {x : Nat} (hx : Ow c mb a sb bm gm S x) : x < w.heap.size := by
  rcases hx with rfl | rfl | ⟨ad, e, rfl⟩ | ⟨q, hq, rfl | rfl | rfl⟩
  · exact lt_of h.head
  · exact h.map.lt
  · obtain ⟨cur, hb⟩ := h.row e
    exact lt_of hb
  · obtain ⟨sp, hs⟩ := h.slab q hq
    exact lt_of hs
  · exact (h.bits q hq).lt.1
  · exact (h.bits q hq).lt.2
/-- Other blocks may turn. -/
theorem Ca.other (h : Ca w c p sz m mb nm D a cap nn L sb bm gm ws S O U) (ho : ∀ x, Ow c mb a sb bm gm S x → w'.heap[x]? = w.heap[x]?) : Ca w' c p sz m mb nm D a cap nn L sb bm gm ws S O U := by
  refine ⟨(ho c (.inl rfl)).trans h.head, ownsMap_block h.map (ho mb (.inr (.inl rfl))), h.says, fun q hq => ?_, fun q hq => ?_, h.bit_, h.opn.other (ho c (.inl rfl)) (fun ad e => ho _ (.inr (.inr (.inl ⟨ad, e, rfl⟩)))) (fun k hk => ho _ (.inr (.inr (.inr ⟨L k, h.inS hk, .inl rfl⟩)))), h.heap, h.inn, h.os, h.oneb, h.oneg⟩
  · obtain ⟨sp, hs⟩ := h.slab q hq
    exact ⟨sp, (ho _ (.inr (.inr (.inr ⟨q, hq, .inl rfl⟩)))).trans hs⟩
  · have hB := h.bits q hq
    exact ⟨(ho _ (.inr (.inr (.inr ⟨q, hq, .inr (.inl rfl)⟩)))).trans hB.head, (ho _ (.inr (.inr (.inr ⟨q, hq, .inr (.inr rfl)⟩)))).trans hB.body, hB.unlike, hB.small, hB.ok⟩
theorem Ca.below (h : Ca w c p sz m mb nm D a cap nn L sb bm gm ws S O U) (hb : Below w.heap.size w w') : Ca w' c p sz m mb nm D a cap nn L sb bm gm ws S O U := h.other fun x hx => hb.block x (h.lt hx)
theorem Ca.drewN (h : Ca w c p sz m mb nm D a cap nn L sb bm gm ws S O U) (k : Nat) : Ca (w.drewN k) c p sz m mb nm D a cap nn L sb bm gm ws S O U := h.other fun _ _ => rfl
theorem Ca.turn {T : Nat → Prop} (h : Ca w c p sz m mb nm D a cap nn L sb bm gm ws S O U) (ht : Turn T w w') (hT : ∀ x, Ow c mb a sb bm gm S x → ¬ T x) : Ca w' c p sz m mb nm D a cap nn L sb bm gm ws S O U := h.other fun x hx => ht.block x (h.lt hx) (hT x hx)
theorem Ca.congr {sb' bm' gm' : Nat → Nat} {ws' : Nat → List Nat} {S' O' : Nat → Prop} {U' : Pls} (h : Ca w c p sz m mb nm D a cap nn L sb bm gm ws S O U) (hs : ∀ q, S q → sb' q = sb q ∧ bm' q = bm q ∧ gm' q = gm q ∧ ws' q = ws q) (hS : ∀ q, S' q ↔ S q) (hO : ∀ q, O' q ↔ O q) (hU : ∀ q, S q → ∀ i, i < m → U' q i = U q i) :
    Ca w c p sz m mb nm D a cap nn L sb' bm' gm' ws' S' O' U' := by
  refine ⟨h.head, h.map, h.says.congr hS (fun q hq => (hs q hq).1), fun q hq => ?_, fun q hq => ?_, fun q hq i hi => ?_, h.opn.congr (fun k hk => ⟨(hs _ (h.inS hk)).1, (hs _ (h.inS hk)).2.1⟩), h.heap, fun q => (h.inn q).trans (hO q).symm, fun q hq => (hS q).2 (h.os q ((hO q).1 hq)), fun q r hq hr e => ?_, fun q r hq hr e => ?_⟩
  · have hq := (hS q).1 hq
    rw [(hs q hq).1, (hs q hq).2.1]; exact h.slab q hq
  · have hq := (hS q).1 hq
    rw [(hs q hq).2.1, (hs q hq).2.2.1, (hs q hq).2.2.2]; exact h.bits q hq
  · have hq := (hS q).1 hq
    rw [(hs q hq).2.2.2, hU q hq i hi]; exact h.bit_ q hq i hi
  · have hq := (hS q).1 hq
    have hr := (hS r).1 hr
    rw [(hs q hq).2.1, (hs r hr).2.1] at e
    exact h.oneb q r hq hr e
  · have hq := (hS q).1 hq
    have hr := (hS r).1 hr
    rw [(hs q hq).2.2.1, (hs r hr).2.2.1] at e
    exact h.oneg q r hq hr e

def now {α : Type} (f : Nat → α) (q : Nat) (x : α) : Nat → α := fun r => if r = q then x else f r
theorem now_at {α : Type} (f : Nat → α) (q : Nat) (x : α) : now f q x q = x := by simp [now]
theorem now_ne {α : Type} (f : Nat → α) {q r : Nat} (x : α) (h : r ≠ q) : now f q x r = f r := by simp [now, h]

/-- A place's bit is set. -/
theorem Ca.setBit {q i : Nat} {on : Bool} {ws2 : List Nat} (h : Ca w c p sz m mb nm D a cap nn L sb bm gm ws S O U) (hq : S q) (hb : But (gm q) w w') (hB : Bits w' (bm q) (gm q) m ws2) (hw : ∀ j, j < m → bit ws2 j = if j = i then on else bit (ws q) j) :
    Ca w' c p sz m mb nm D a cap nn L sb bm gm (now ws q ws2) S O (setU U q i on) := by
  have hG := (h.bits q hq).body
  have hc : w'.heap[c]? = w.heap[c]? := hb.block c (lt_of h.head) (ne_cells h.head hG (by decide))
  have hsl : ∀ r, S r → w'.heap[sb r]? = w.heap[sb r]? := fun r hr => by
    obtain ⟨sp, hs⟩ := h.slab r hr
    exact hb.block _ (lt_of hs) (ne_cells hs hG (by decide))
  refine ⟨hc.trans h.head, ownsMap_block h.map (hb.block mb h.map.lt (ne_map hG h.map).symm), h.says, fun r hr => ?_, fun r hr => ?_, fun r hr j hj => ?_, h.opn.other hc (fun ad e => ?_) (fun k hk => hsl _ (h.inS hk)), h.heap, h.inn, h.os, h.oneb, h.oneg⟩
  · obtain ⟨sp, hs⟩ := h.slab r hr
    exact ⟨sp, (hsl r hr).trans hs⟩
  · by_cases e : r = q
    · subst e; rw [now_at]; exact hB
    · rw [now_ne _ _ e]
      exact (h.bits r hr).but hb (ne_cells (h.bits r hr).head hG (by decide)) (fun e2 => e (h.oneg r q hr hq e2))
  · by_cases e : r = q
    · subst e
      rw [now_at, hw j hj]
      by_cases ej : j = i
      · subst ej; rw [if_pos rfl, setU_same]
      · rw [if_neg ej, setU_ne _ _ (fun e => ej e.2)]; exact h.bit_ r hr j hj
    · rw [now_ne _ _ e, setU_page _ _ e]; exact h.bit_ r hr j hj
  · obtain ⟨cur, hr⟩ := h.row e
    exact hb.block _ (lt_of hr) (ne_cells hr hG (by decide))
end
end Go.Proofs.YtohaoeilodebmaaDoor
