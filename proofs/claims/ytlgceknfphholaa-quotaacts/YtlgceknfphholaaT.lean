/- Both trees, of the same factories, and the act at hand. -/
import Derived.Test.YtlgceknfphholaaR3
namespace Go.Proofs.Ytlgceknfphholaa
open Go.RowKit

/-- Both trees stand for the same factories; nothing that was there in v has turned. -/
structure Two (N : Nat) (v w : World) (p q g cap : Nat) (l : List Fac) (nxt : Nat) : Prop where
  mem : Qt (fun x => v.heap.size ≤ x ∧ x ≠ q ∧ x ≠ g) w p l nxt
  ref : Rm w q g cap l nxt
  inv : Inv N l nxt
  bel : Below v.heap.size v w
  lq : v.heap.size ≤ q
  lg : v.heap.size ≤ g

def Zx (v : World) (q g b : Nat) (x : Nat) : Prop := v.heap.size ≤ x ∧ x ≠ q ∧ x ≠ g ∧ x ≠ b
/-- Beside them the act, at block b; the document's tree stands for l, the program's for l'. -/
structure Mid (N : Nat) (v w : World) (p q g cap b : Nat) (ii nn : Int) (l : List Fac) (nxt : Nat) (l' : List Fac) (nxt' : Nat) : Prop where
  mem : Qt (Zx v q g b) w p l' nxt'
  ref : Rm w q g cap l nxt
  inv : Inv N l nxt
  inv' : Inv N l' nxt'
  bel : Below v.heap.size v w
  lq : v.heap.size ≤ q
  lg : v.heap.size ≤ g
  lb : b < w.heap.size
  bq : b ≠ q
  bg : b ≠ g
  a1 : w.cell? ⟨b, 1, none⟩ = some (.int .i64 ii)
  a2 : w.cell? ⟨b, 2, none⟩ = some (.int .i64 nn)

section
variable {N : Nat} {v w w' : World} {p q g cap b nxt nxt' : Nat} {ii nn kd : Int} {l l' : List Fac}
theorem Two.act (h : Two N v w p q g cap l nxt) : Mid N v (w.alloc (.cells #[.int .i64 kd, .int .i64 ii, .int .i64 nn] 38)) p q g cap w.heap.size ii nn l nxt l nxt := by
  have hb : Below w.heap.size w (w.alloc (.cells #[.int .i64 kd, .int .i64 ii, .int .i64 nn] 38)) := (Below.refl _ _).alloc (Nat.le_refl _) _
  have h1 := h.ref.lq
  have h2 := h.ref.lg
  refine ⟨(h.mem.narrow.below hb).wide (fun x hx => ⟨hx.1.1, hx.1.2.1, hx.1.2.2, by omega⟩), h.ref.below hb, h.inv, h.inv, Below.of_below h.bel h.bel.size hb, h.lq, h.lg, by simp, by omega, by omega, ?_, ?_⟩
  · rw [cell_of_row _ _ _ _ _ _ (heap_alloc_new _ _)]; rfl
  · rw [cell_of_row _ _ _ _ _ _ (heap_alloc_new _ _)]; rfl
theorem Mid.two (h : Mid N v w p q g cap b ii nn l nxt l nxt) : Two N v w p q g cap l nxt := ⟨h.mem.wide (fun _ hx => ⟨hx.1, hx.2.1, hx.2.2.1⟩), h.ref, h.inv, h.bel, h.lq, h.lg⟩
theorem Mid.below (h : Mid N v w p q g cap b ii nn l nxt l' nxt') (hb : Below w.heap.size w w') : Mid N v w' p q g cap b ii nn l nxt l' nxt' :=
  ⟨h.mem.below hb, h.ref.below hb, h.inv, h.inv', Below.of_below h.bel h.bel.size hb, h.lq, h.lg, Nat.lt_of_lt_of_le h.lb hb.size, h.bq, h.bg, (hb.cell (p := ⟨b, 1, none⟩) h.lb).trans h.a1, (hb.cell (p := ⟨b, 2, none⟩) h.lb).trans h.a2⟩
theorem Mid.drew (h : Mid N v w p q g cap b ii nn l nxt l' nxt') : Mid N v w.drew p q g cap b ii nn l nxt l' nxt' := h.below ⟨rfl, rfl, rfl, Nat.le_refl _, fun _ _ => rfl⟩
theorem Mid.new (h : Mid N v w p q g cap b ii nn l nxt l' nxt') : ∀ x, w.heap.size ≤ x → Zx v q g b x := fun x hx => ⟨Nat.le_trans h.bel.size hx, by have := h.ref.lq; omega, by have := h.ref.lg; omega, by have := h.lb; omega⟩
/-- Behind the program's call. -/
theorem Mid.turnP (h : Mid N v w p q g cap b ii nn l nxt l nxt) (hq : Qt (Zx v q g b) w' p l' nxt') (ht : Turn (Zx v q g b) w w') (hi : Inv N l' nxt') : Mid N v w' p q g cap b ii nn l nxt l' nxt' :=
  ⟨hq, h.ref.turn ht (fun hx => hx.2.1 rfl) (fun hx => hx.2.2.1 rfl), h.inv, hi, Below.of_turn h.bel h.bel.size ht (fun _ hx => hx.1), h.lq, h.lg, Nat.lt_of_lt_of_le h.lb ht.size, h.bq, h.bg,
   (World.cell?_of_block (w := w) (ht.block b h.lb (fun hx => hx.2.2.2 rfl))).trans h.a1, (World.cell?_of_block (w := w) (ht.block b h.lb (fun hx => hx.2.2.2 rfl))).trans h.a2⟩
/-- Behind the document's call. -/
theorem Mid.turnR {g' cap' : Nat} (h : Mid N v w p q g cap b ii nn l nxt l' nxt') (hr : Rm w' q g' cap' l' nxt') (hg : g' = g ∨ w.heap.size ≤ g') (ht : Turn (fun x => x = q ∨ x = g) w w') : Mid N v w' p q g' cap' b ii nn l' nxt' l' nxt' := by
  have hlb := h.lb
  have hbg : b ≠ g' := by rcases hg with e | e; rw [e]; exact h.bg; omega
  have hn : ¬ (b = q ∨ b = g) := fun hx => by rcases hx with e | e; exact h.bq e; exact h.bg e
  have hbs := h.bel.size
  have hlg := h.lg
  refine ⟨((h.mem.narrow.turn ht (fun x hx => ?_)).wide (fun x hx => ⟨hx.1.1, hx.1.2.1, ?_, hx.1.2.2.2⟩)), hr, h.inv', h.inv', Below.of_turn h.bel h.bel.size ht (fun x hx => ?_), h.lq, ?_, Nat.lt_of_lt_of_le h.lb ht.size, h.bq, hbg, (World.cell?_of_block (w := w) (ht.block b hlb hn)).trans h.a1, (World.cell?_of_block (w := w) (ht.block b hlb hn)).trans h.a2⟩
  · rintro (e | e)
    · exact hx.1.2.1 e
    · exact hx.1.2.2.1 e
  · rcases hg with e | e
    · rw [e]; exact hx.1.2.2.1
    · have := hx.2; omega
  · rcases hx with e | e
    · rw [e]; exact h.lq
    · rw [e]; exact h.lg
  · rcases hg with e | e <;> omega

theorem Mid.carve (h : Mid N v w p q g cap b ii nn l nxt l nxt) (hn : nxt ≤ 1073741824) : Calls Try.prog 11 #[.pointer (some ⟨p, 0, none⟩), .int .i64 ii, .int .i64 nn] w fun e w' => e = .returned (.tuple #[.int .i64 (carveA l nxt ii nn).1, .int .i64 (carveA l nxt ii nn).2.1]) ∧ Mid N v w' p q g cap b ii nn l nxt (carveA l nxt ii nn).2.2.1 (carveA l nxt ii nn).2.2.2 :=
  (carve_any h.mem h.inv h.new hn ii nn).mono fun _ _ ⟨he, hq, ht⟩ => ⟨he, h.turnP hq ht (h.inv.carveA ii nn).1⟩
theorem Mid.close (h : Mid N v w p q g cap b ii nn l nxt l nxt) : Calls Try.prog 12 #[.pointer (some ⟨p, 0, none⟩), .int .i64 ii] w fun e w' => e = .returned (.int .i64 (closeA l ii).1) ∧ Mid N v w' p q g cap b ii nn l nxt (closeA l ii).2 nxt :=
  (close_any h.mem h.inv ii).mono fun _ _ ⟨he, hq, ht⟩ => ⟨he, h.turnP hq ht (h.inv.closeA ii)⟩
theorem Mid.charge (h : Mid N v w p q g cap b ii nn l nxt l nxt) : Calls Try.prog 13 #[.pointer (some ⟨p, 0, none⟩), .int .i64 ii, .int .i64 nn] w fun e w' => e = .returned (.int .i64 (chargeA l ii nn).1) ∧ Mid N v w' p q g cap b ii nn l nxt (chargeA l ii nn).2 nxt :=
  (chargeT_any h.mem h.inv ii nn).mono fun _ _ ⟨he, hq, ht⟩ => ⟨he, h.turnP hq ht (h.inv.chargeA ii nn)⟩
theorem Mid.refund (h : Mid N v w p q g cap b ii nn l nxt l nxt) : Calls Try.prog 14 #[.pointer (some ⟨p, 0, none⟩), .int .i64 ii, .int .i64 nn] w fun e w' => e = .returned (.int .i64 (refundA l ii nn).1) ∧ Mid N v w' p q g cap b ii nn l nxt (refundA l ii nn).2 nxt :=
  (refundT_any h.mem h.inv ii nn).mono fun _ _ ⟨he, hq, ht⟩ => ⟨he, h.turnP hq ht (h.inv.refundA ii nn)⟩
def FinPost (N : Nat) (v : World) (p q b : Nat) (ii nn : Int) (er : Value) (l' : List Fac) (nxt' : Nat) (e : Ending) (w' : World) : Prop := e = .returned er ∧ ∃ g' cap', Mid N v w' p q g' cap' b ii nn l' nxt' l' nxt'
theorem Mid.rcarve (h : Mid N v w p q g cap b ii nn l nxt (carveA l nxt ii nn).2.2.1 (carveA l nxt ii nn).2.2.2) (hn : nxt ≤ 1073741824) : Calls Try.prog 21 #[.pointer (some ⟨q, 0, none⟩), .int .i64 ii, .int .i64 nn] w (FinPost N v p q b ii nn (.tuple #[.int .i64 (carveA l nxt ii nn).1, .int .i64 (carveA l nxt ii nn).2.1]) (carveA l nxt ii nn).2.2.1 (carveA l nxt ii nn).2.2.2) :=
  (rcarve_any h.ref h.inv hn ii nn).mono fun _ _ ⟨he, ⟨g', cap', hr, hg⟩, ht⟩ => ⟨he, g', cap', h.turnR hr hg ht⟩
theorem Mid.rclose (h : Mid N v w p q g cap b ii nn l nxt (closeA l ii).2 nxt) : Calls Try.prog 22 #[.pointer (some ⟨q, 0, none⟩), .int .i64 ii] w (FinPost N v p q b ii nn (.int .i64 (closeA l ii).1) (closeA l ii).2 nxt) :=
  (rclose_any h.ref h.inv ii).mono fun _ _ ⟨he, ⟨g', cap', hr, hg⟩, ht⟩ => ⟨he, g', cap', h.turnR hr hg ht⟩
theorem Mid.rcharge (h : Mid N v w p q g cap b ii nn l nxt (chargeA l ii nn).2 nxt) : Calls Try.prog 23 #[.pointer (some ⟨q, 0, none⟩), .int .i64 ii, .int .i64 nn] w (FinPost N v p q b ii nn (.int .i64 (chargeA l ii nn).1) (chargeA l ii nn).2 nxt) :=
  (rcharge_any h.ref h.inv ii nn).mono fun _ _ ⟨he, ⟨g', cap', hr, hg⟩, ht⟩ => ⟨he, g', cap', h.turnR hr hg ht⟩
theorem Mid.rrefund (h : Mid N v w p q g cap b ii nn l nxt (refundA l ii nn).2 nxt) : Calls Try.prog 24 #[.pointer (some ⟨q, 0, none⟩), .int .i64 ii, .int .i64 nn] w (FinPost N v p q b ii nn (.int .i64 (refundA l ii nn).1) (refundA l ii nn).2 nxt) :=
  (rrefund_any h.ref h.inv ii nn).mono fun _ _ ⟨he, ⟨g', cap', hr, hg⟩, ht⟩ => ⟨he, g', cap', h.turnR hr hg ht⟩

theorem Mid.ids (h : Mid N v w p q g cap b ii nn l nxt l nxt) : Calls Try.prog 19 #[.pointer (some ⟨p, 0, none⟩)] w (RowPost (l.map Fac.id) w) := by
  obtain ⟨a, cap, fb, hq, _⟩ := h.mem
  exact ids_any hq h.inv.few
theorem Mid.limit (h : Mid N v w p q g cap b ii nn l nxt l nxt) (i : Int) : Calls Try.prog 15 #[.pointer (some ⟨p, 0, none⟩), .int .i64 i] w fun e w' => e = .returned (.int .i64 (limA l i)) ∧ w' = w := by
  obtain ⟨a, cap, fb, hq, _⟩ := h.mem
  exact limit_any hq h.inv.few i
theorem Mid.charged (h : Mid N v w p q g cap b ii nn l nxt l nxt) (i : Int) : Calls Try.prog 17 #[.pointer (some ⟨p, 0, none⟩), .int .i64 i] w fun e w' => e = .returned (.int .i64 (chgA l i)) ∧ w' = w := by
  obtain ⟨a, cap, fb, hq, _⟩ := h.mem
  exact charged_any hq h.inv.few i
theorem Mid.parent (h : Mid N v w p q g cap b ii nn l nxt l nxt) (i : Int) : Calls Try.prog 18 #[.pointer (some ⟨p, 0, none⟩), .int .i64 i] w fun e w' => e = .returned (.int .i64 (parA l i)) ∧ w' = w := by
  obtain ⟨a, cap, fb, hq, _⟩ := h.mem
  exact parent_any hq h.inv.few i
theorem Mid.use (h : Mid N v w p q g cap b ii nn l nxt l nxt) (i : Int) : Calls Try.prog 16 #[.pointer (some ⟨p, 0, none⟩), .int .i64 i] w (UsePost (useA l i) w) := by
  obtain ⟨a, cap, fb, hq, _⟩ := h.mem
  exact useT_any hq h.inv i
end
end Go.Proofs.Ytlgceknfphholaa
