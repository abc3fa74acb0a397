/- A cache: dropSlab. -/
import Derived.Test.YtohaoeilodebmaaDoorS16
namespace Go.Proofs.YtohaoeilodebmaaDoor
open Go.RowKit Go.Maps

theorem Ca.drew {w : World} {c p sz m mb nm : Nat} {D : DataW Unit} {a : Option Addr} {cap nn : Nat} {L sb bm gm : Nat → Nat} {ws : Nat → List Nat} {S O : Nat → Prop} {U : Pls} (h : Ca w c p sz m mb nm D a cap nn L sb bm gm ws S O U) : Ca w.drew c p sz m mb nm D a cap nn L sb bm gm ws S O U := h.other fun _ _ => rfl
def DropPost (w : World) (Z : Nat → Prop) (c p sz m mm K : Nat) (bf gf : Nat → Nat) (B : St) (ct : Nat) (mb nm : Nat) (a : Option Addr) (cap q : Nat) (sb bm gm : Nat → Nat) (ws : Nat → List Nat) (S O : Nat → Prop) (U : Pls) (e : Ending) (w' : World) : Prop :=
  e = .returned (.int .i64 0) ∧ Turn (Tn Z mm K gf) w w' ∧ ∃ B' D' nn' L', Less B B' 0 q ∧ Good w' p mm K bf gf B' ct ∧ Ca w' c p sz m mb nm D' a cap nn' L' sb bm gm ws (fun r => S r ∧ r ≠ q) (fun r => O r ∧ r ≠ q) U

set_option maxRecDepth 100000 in
set_option maxHeartbeats 2000000 in
theorem sdrop_any {w : World} {Z : Nat → Prop} {c p sz m mm K : Nat} {bf gf : Nat → Nat} {B : St} {ct mb nm q : Nat} {D : DataW Unit} {a : Option Addr} {cap nn : Nat} {L sb bm gm : Nat → Nat} {ws : Nat → List Nat} {S O : Nat → Prop} {U : Pls}
    (h : Ca w c p sz m mb nm D a cap nn L sb bm gm ws S O U) (hZ : ∀ x, Ow c mb a sb bm gm S x → Z x) (hG : Good w p mm K bf gf B ct) (hd : ∀ x, Z x → ¬ AB p mm K bf gf x) (hO : O q) (hB : B 0 q = .used) (hq : q < 1048576) :
    Calls Tryd.prog 55 #[.pointer (some ⟨c, 0, none⟩), .pointer (some ⟨sb q, 0, none⟩)] w (DropPost w Z c p sz m mm K bf gf B ct mb nm a cap q sb bm gm ws S O U) := by
  obtain ⟨k, hk, ek⟩ := (h.inn q).2 hO
  obtain ⟨n, rfl⟩ : ∃ n, nn = n + 1 := ⟨nn - 1, by omega⟩
  obtain ⟨g, rfl, hH⟩ := h.heapAt rfl
  have hs := hH.mem.slab k hk
  rw [ek] at hs
  have s2 : w.cell? ⟨sb q, 2, none⟩ = some (.int .i64 (k : Int)) := by rw [cell_of_row w _ 2 _ _ _ hs]; rfl
  have hcon := hremove_any w.drew c g cap n k _ L sb bm (by omega) h.drew.head ((h.drew.heapAt rfl).elim fun g' e => by have := e.1; cases this; exact e.2) h.heap
  have HC := hid hcon
  have HH := hid (And.intro h (And.intro hZ (And.intro hG (And.intro hd (And.intro hO (And.intro hB ek))))))
  clear h hZ hG hd hO hB hs hH hcon ek
  go_enter Tryd.func55, Tryd.ntmps55
  go_wp2_with fail
  go_region_with (go_at_call 74; refine HC.out.mono ?_; rintro e w1 ⟨rfl, hp1⟩; have HP := hid hp1; clear hp1)
  obtain ⟨h, hZ, hG, hd, hO, hB, ek⟩ := HH.out
  obtain ⟨L1, hC1, ht1⟩ := h.drew.popped (i := k) (by omega) ⟨rfl, HP.out⟩
  rw [ek] at hC1
  obtain ⟨y, hy⟩ : ∃ y, y = pag q := ⟨_, rfl⟩
  have hSq := h.os q hO
  have s1 : w1.cell? ⟨sb q, 1, none⟩ = some (.int .i64 y) := by rw [hy]; exact hC1.s1 hSq
  have c2 := hC1.c2
  have hyb : 0 ≤ y ∧ y < 1073741824 := by rw [hy]; unfold pag; omega
  obtain ⟨w2, hrun, r1, r2⟩ := hC1.drew.map.drop law3 Tryd.underlying75 (keyOf_int_mk Tryd.underlying3 (wf_i64 (a := y) (by omega) (by omega))) 0
  have HX := hid (And.intro hC1 (And.intro ht1 (And.intro r1 (And.intro r2 hy))))
  clear h hZ hG hd hO hB ek hC1 ht1 r1 r2 hy hSq
  go_wp2_with fail
  go_region
  obtain ⟨h, hZ, hG, hd, hO, hB, ek⟩ := HH.out
  obtain ⟨hC1, ht1, r1, r2, hy⟩ := HX.out
  rw [hy] at r1
  have hC2 := hC1.drew.unmapped (q := q) (fun e => e.2 rfl) r1 r2
  have htw : Turn (Tn Z mm K gf) w w1 := (Turn.drew (Turn.refl _ w)).next ht1 (by
    rintro x (rfl | ⟨ad, e, rfl⟩ | ⟨r, hr, rfl⟩)
    · exact .inl (.inl (hZ _ (.inl rfl)))
    · exact .inl (.inl (hZ _ (.inr (.inr (.inl ⟨_, e, rfl⟩)))))
    · exact .inl (.inl (hZ _ (.inr (.inr (.inr ⟨r, hr, .inl rfl⟩))))))
  have ht2 : Turn (Tn Z mm K gf) w w2 := htw.drew.next (Turn.of_map (T := fun x => x = mb) r2 (.inl rfl)) (by
    rintro x rfl
    exact .inl (.inl (hZ _ (.inr (.inl rfl)))))
  have hG2 : Good w2.drew p mm K bf gf B ct := by
    have e1 : Good w1 p mm K bf gf B ct := (hG.other (w' := w.drew) (fun _ _ _ => rfl)).turn ht1 (by
      rintro x hx (rfl | ⟨ad, e, rfl⟩ | ⟨r, hr, rfl⟩)
      · exact hd _ (hZ _ (.inl rfl)) hx
      · exact hd _ (hZ _ (.inr (.inr (.inl ⟨_, e, rfl⟩)))) hx
      · exact hd _ (hZ _ (.inr (.inr (.inr ⟨r, hr, .inl rfl⟩)))) hx)
    have e2 : Good w2 p mm K bf gf B ct := (e1.other (w' := w1.drew) (fun _ _ _ => rfl)).turn (Turn.of_map (T := fun x => x = mb) r2 (.inl rfl)) (by
      rintro x hx rfl
      exact hd _ (hZ _ (.inr (.inl rfl))) hx)
    exact e2.other (fun _ _ _ => rfl)
  have s12 : w2.cell? ⟨sb q, 1, none⟩ = some (.int .i64 y) := by
    obtain ⟨sp, hs⟩ := hC1.slab q (h.os q hO)
    have : w2.heap[sb q]? = w1.drew.heap[sb q]? := r2.grown.block _ (lt_of (w := w1.drew) hs) (fun e => by cases e; exact ne_map hs hC1.map rfl)
    exact (World.cell?_of_block this).trans s1
  have c0 := hC2.c0
  have hcon := gave_any w2.drew p mm K bf gf B ct 0 q y hG2 hB (by rw [hy, zero_addr])
  have HC2 := hid hcon
  have HY := hid (And.intro hC2 (And.intro ht2 hG2))
  clear h hZ hG hd hO hB ek hC1 ht1 r1 r2 hy hC2 htw ht2 hG2 hcon s1 c2 s2
  go_wp2_with fail
  go_region_with (go_at_call 11; refine HC2.out.mono ?_; rintro e w3 ⟨B', rfl, ht3, hG3, hL⟩; have HP3 := hid (And.intro ht3 (And.intro hG3 hL)); clear ht3 hG3 hL)
  all_goals
    go_wp2_with fail
    go_ret
    obtain ⟨h, hZ, hG, hd, hO, hB, ek⟩ := HH.out
    obtain ⟨ht3, hG3, hL⟩ := HP3.out
    obtain ⟨hC2, ht2, hG2⟩ := HY.out
    have hC3 := hC2.drew.turn ht3 (fun x hx ho => by
      refine hd x (hZ x ?_) ho.ab
      rcases hx with e | e | e | ⟨r, hr, e⟩
      · exact .inl e
      · exact .inr (.inl e)
      · exact .inr (.inr (.inl e))
      · exact .inr (.inr (.inr ⟨r, hr.1, e⟩)))
    exact ⟨rfl, ht2.drew.next ht3 (fun x hx => .inl (.inr hx)), B', _, _, _, hL, hG3, hC3⟩
end Go.Proofs.YtohaoeilodebmaaDoor
