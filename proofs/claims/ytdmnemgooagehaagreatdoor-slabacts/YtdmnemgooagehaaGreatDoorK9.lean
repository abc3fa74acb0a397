/- What came in as a list of acts; the tables as this law's row lists them; the whole walk of SlabActs. -/
import Derived.Test.YtdmnemgooagehaaGreatDoorK8
namespace Go.Proofs.YtdmnemgooagehaaGreatDoor
open Go.ChangeShapes Go.WideShapes Go.ChangeAt Go.RowKit

theorem cells42 : Tryz.prog.cellsOf 42 = 2 := by kernel_rfl

set_option maxRecDepth 1000000 in
theorem act_of {H : Type} {enc : TypeId × Value → H} {w : World} {fuel : Nat} {cs : List Value} {x : DataW H × List MemPlace} {s p : Nat} (h : DataW.trod enc Tryz.prog w 0 (fun _ => true) true fuel 42 cs = some x) (hc : ∀ j, j < 2 → w.cell? ⟨s, p + j, none⟩ = cs[j]?) :
    ∃ kd n : Int, w.cell? ⟨s, p, none⟩ = some (.int .i64 kd) ∧ w.cell? ⟨s, p + 1, none⟩ = some (.int .i64 n) ∧ (Lit.int .i64 kd).wf = true ∧ (Lit.int .i64 n).wf = true := by
  obtain ⟨xs, n, _, _, hl, hlen, hf⟩ := DataW.trod_struct Tryz.underlying42 h
  rw [cells42] at hl
  match cs, hl with
  | [v0, v1], _ =>
    match xs, hlen with
    | [y0, y1], _ =>
      have f0 : DataW.trod enc Tryz.prog w 0 (fun _ => true) true n 3 (([v0, v1].drop 0).take (Tryz.prog.cellsOf 3)) = some y0 := hf 0 _ rfl
      have f1 : DataW.trod enc Tryz.prog w 0 (fun _ => true) true n 3 (([v0, v1].drop 1).take (Tryz.prog.cellsOf 3)) = some y1 := hf 1 _ rfl
      rw [cells3] at f0 f1
      obtain ⟨a0, e0, _, w0⟩ := DataW.trod_int Tryz.underlying3 f0
      obtain ⟨a1, e1, _, w1⟩ := DataW.trod_int Tryz.underlying3 f1
      simp at e0 e1
      subst e0 e1
      exact ⟨a0, a1, hc 0 (by omega), hc 1 (by omega), w0, w1⟩

theorem acts_of {H : Type} {enc : TypeId × Value → H} {w : World} {fuel : Nat} {a : Option Addr} {len cap : Nat} {x : DataW H × List MemPlace} (h : DataW.trod enc Tryz.prog w 0 (fun _ => true) true fuel 22 [.slice a len cap] = some x) : Acts w a len := by
  rcases Deep.open_slice Tryz.underlying22 h with ⟨hcs, _⟩ | ⟨b, l, c, m, n, D, Pl, hcs, _, hl, hm, hmm, _, hx⟩
  · obtain ⟨rfl, rfl, rfl⟩ : a = none ∧ len = 0 ∧ cap = 0 := by simpa using hcs
    exact .inl rfl
  · obtain ⟨rfl, rfl, rfl⟩ : a = some b ∧ len = l ∧ cap = c := by simpa using hcs
    simp only [if_true] at hmm
    subst hmm
    by_cases h0 : len = 0
    · exact .inl h0
    rw [cells42] at hx
    obtain ⟨cs0, hc0, ht0⟩ := hx 0 (by omega)
    obtain ⟨_, hl0, hcell0⟩ := World.cells?_some hc0
    obtain ⟨s, o, spot⟩ := b
    have hsp : spot = none := by
      have h1 := hcell0 0 (by omega)
      rw [List.getElem?_eq_getElem (by omega)] at h1
      have := World.cell?_spot h1
      simpa [Addr.add] using this
    subst hsp
    refine .inr ⟨s, o, rfl, ?_, ?_⟩
    · have h1 := hcell0 0 (by omega)
      rw [List.getElem?_eq_getElem (by omega), Nat.zero_mul, addr_add, addr_add] at h1
      exact block_lt_of_cell h1
    · intro i hi
      obtain ⟨cs, hc, ht⟩ := hx i (by omega)
      obtain ⟨_, hl1, hcell⟩ := World.cells?_some hc
      refine act_of ht (fun j hj => ?_)
      have := hcell j hj
      rw [addr_add, addr_add] at this
      exact this

theorem table2 {W : World} (h : laidMetH Tryz.prog [("math/bits.deBruijn32tab", Rows.laid_math_bits_deBruijn32tab), ("math/bits.deBruijn64tab", Rows.laid_math_bits_deBruijn64tab)] W) : Lib.TabIs Tryz.prog W "math/bits.deBruijn64tab" .u8 tabInts :=
  Lib.tabIs_of_head (rest := []) gTab gTabType Tryz.underlying196 Tryz.underlying5 cells5 cells158 (laidMet.tail h)
theorem tab_of2 {W : World} (h : laidMetH Tryz.prog [("math/bits.deBruijn32tab", Rows.laid_math_bits_deBruijn32tab), ("math/bits.deBruijn64tab", Rows.laid_math_bits_deBruijn64tab)] W) : Tab W := by
  intro j hj
  have := (table2 h).cell gTab j (by show j < _; exact hj)
  rw [this, tab_val ⟨j, hj⟩]

theorem sacts_all (S : Int) (a : Option Addr) (len cap : Nat) (w : World) (hT : Tab w) (hA : Acts w a len) :
    Calls Tryz.prog 3 #[.int .i64 S, .slice a len cap] w fun e w' => e = .returned (.bool true) ∧ Below w.heap.size w w' := by
  by_cases hl : (200 : Int) < len
  · exact slabActs.core_long S a len cap w hT hl
  by_cases hno : S < 16 ∨ 512 < S ∨ S % 16 ≠ 0
  · exact slabActs.core_no S a len cap w hT (by omega) hno
  obtain ⟨sz, rfl⟩ := Int.eq_ofNat_of_zero_le (show 0 ≤ S by omega)
  exact slabActs.core sz (960 / sz) ⟨by omega, by omega, rfl, by omega, by omega⟩ (by omega) _ rfl a len cap w hT hA (by omega)
end Go.Proofs.YtdmnemgooagehaaGreatDoor
