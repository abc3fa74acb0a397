/- Plain facts on lists of bytes, and on worlds of which all but one block is as it was. No program is named here. -/
import Derived.WalkKit
import Derived.WalkSpells
import Derived.WalkLawsBesides
import Derived.Laws.CopyOwn
namespace Go.Proofs.Ytaoahbobofdimaa
open Go.RowKit

def bv (m : List Int) : Array Value := (m.map (Value.int .u8)).toArray
def putAt (m : List Int) (o : Nat) (cs : List Int) : List Int := m.take o ++ (cs ++ m.drop (o + cs.length))

theorem bv_size (m : List Int) : (bv m).size = m.length := by simp [bv]

theorem bv_get (m : List Int) (i : Nat) (h : i < m.length) : (bv m)[i]? = some (.int .u8 (m[i]?.getD 0)) := by
  simp [bv, h]

theorem putAt_length (m : List Int) (o : Nat) (cs : List Int) (h : o + cs.length ≤ m.length) : (putAt m o cs).length = m.length := by
  simp [putAt]; omega

theorem putAt_nil (m : List Int) (o : Nat) : putAt m o [] = m := by simp [putAt]

theorem putAt_get (m : List Int) (o : Nat) (cs : List Int) (h : o + cs.length ≤ m.length) (i : Nat) :
    (putAt m o cs)[i]? = if i < o then m[i]? else if i < o + cs.length then cs[i - o]? else m[i]? := by
  have hm : min o m.length = o := by omega
  by_cases h1 : i < o
  · simp [putAt, List.getElem?_append, hm, h1]
  · by_cases h2 : i < o + cs.length
    · have : i - o < cs.length := by omega
      simp [putAt, List.getElem?_append, hm, h1, h2, this]
    · have h3 : ¬ i - o < cs.length := by omega
      simp only [putAt, List.getElem?_append, List.length_take, hm, h1, h2, h3, if_false, List.getElem?_drop]
      congr 1; omega

theorem putAt_snoc (m : List Int) (o : Nat) (cs : List Int) (c : Int) (h : o + cs.length < m.length) :
    (putAt m o cs).set (o + cs.length) c = putAt m o (cs ++ [c]) := by
  apply List.ext_getElem?
  intro i
  rw [List.getElem?_set, putAt_length m o cs (by omega), putAt_get m o cs (by omega), putAt_get m o (cs ++ [c]) (by simp; omega)]
  simp only [List.length_append, List.length_cons, List.length_nil]
  by_cases h1 : o + cs.length = i
  · subst h1
    have : ¬ o + cs.length < o := by omega
    simp [h, this]
  · by_cases h2 : i < o
    · simp [h1, h2]
    · by_cases h3 : i < o + cs.length
      · have h4 : i < o + (cs.length + (0 + 1)) := by omega
        have h5 : i - o < cs.length := by omega
        simp [h1, h2, h3, h4, List.getElem?_append, h5]
      · have h4 : ¬ i < o + (cs.length + (0 + 1)) := by omega
        simp [h1, h2, h3, h4]

theorem bv_set (m : List Int) (i : Nat) (c : Int) : (bv m).setIfInBounds i (.int .u8 c) = bv (m.set i c) := by
  apply Array.ext'
  simp [bv, List.map_set]

/-- All blocks that were there, but for one, are as they were. -/
structure But (g : Nat) (w w' : World) : Prop where
  os : w'.os = w.os
  tape : w'.tape = w.tape
  output : w'.output = w.output
  size : w.heap.size ≤ w'.heap.size
  block : ∀ k, k < w.heap.size → k ≠ g → w'.heap[k]? = w.heap[k]?

theorem But.refl (g : Nat) (w : World) : But g w w := ⟨rfl, rfl, rfl, Nat.le_refl _, fun _ _ _ => rfl⟩
theorem But.trans {g : Nat} {a b c : World} (h : But g a b) (k : But g b c) : But g a c :=
  ⟨k.os.trans h.os, k.tape.trans h.tape, k.output.trans h.output, Nat.le_trans h.size k.size,
   fun i hi hg => (k.block i (Nat.lt_of_lt_of_le hi h.size) hg).trans (h.block i hi hg)⟩
theorem But.of_below {g : Nat} {w w' : World} (h : Below w.heap.size w w') : But g w w' :=
  ⟨h.os, h.tape, h.output, h.size, fun k hk _ => h.block k hk⟩
theorem But.drew {g : Nat} {a w : World} (h : But g a w) : But g a w.drew := ⟨h.os, h.tape, h.output, h.size, h.block⟩
theorem But.alloc {g : Nat} {a w : World} (h : But g a w) (o : Obj) : But g a (w.alloc o) :=
  h.trans ⟨rfl, rfl, rfl, by simp, fun k hk _ => Below.heap_alloc _ _ _ hk⟩
theorem But.setCell {g : Nat} {a w : World} (h : But g a w) {p : Addr} (hp : p.block = g ∨ a.heap.size ≤ p.block) (u : Value) : But g a (w.setCell p u) :=
  ⟨h.os, h.tape, h.output, by simpa using h.size, fun k hk hg => by
    rw [Below.heap_setCell _ _ _ _ (by rcases hp with hp | hp <;> omega)]; exact h.block k hk hg⟩
theorem But.setRow {g : Nat} {a w : World} (h : But g a w) {k : Nat} (hp : k = g ∨ a.heap.size ≤ k) (cs : Array Value) : But g a (w.setRow k cs) :=
  ⟨h.os, h.tape, h.output, by simpa using h.size, fun j hj hg => by
    rw [setRow_other w k j cs (by rcases hp with hp | hp <;> omega)]; exact h.block j hj hg⟩
theorem Below.of_but {B g : Nat} {w0 w w' : World} (hb : Below B w0 w) (hB : B ≤ w.heap.size) (h : But g w w') (hg : B ≤ g) : Below B w0 w' :=
  ⟨h.os.trans hb.os, h.tape.trans hb.tape, h.output.trans hb.output, Nat.le_trans hb.size h.size,
   fun k hk => (h.block k (by omega) (by omega)).trans (hb.block k hk)⟩
theorem Below.of_below {B : Nat} {w0 w w' : World} (hb : Below B w0 w) (hB : B ≤ w.heap.size) (h : Below w.heap.size w w') : Below B w0 w' :=
  hb.trans (h.mono hB)

theorem addr_add (g o j : Nat) : (⟨g, o, none⟩ : Addr).add j = ⟨g, o + j, none⟩ := by unfold Addr.add; split <;> simp_all
theorem oneCell_map (l : List Int) : ∀ v ∈ l.map (Value.int .u8), v.oneCell' = true := by
  intro v hv
  obtain ⟨x, _, rfl⟩ := List.mem_map.1 hv
  rfl
theorem madeBytes (k : Nat) : madeCells #[.int .u8 0] k = bv (List.replicate k 0) := by
  apply Array.ext'
  simp [madeCells, bv, Nat.mod_one, List.map_const']

theorem setRow_alloc (w : World) (c cs : Array Value) (t : TypeId) : (w.alloc (.cells c t)).setRow w.heap.size cs = w.alloc (.cells cs t) := by
  unfold World.setRow World.alloc
  congr 1
  apply Array.ext
  · simp
  · intro i h1 h2
    simp only [Array.getElem_modify, Array.getElem_push]
    split
    · rename_i h; subst h; simp
    · rename_i h
      have h3 : i < w.heap.size := by simp at h2; omega
      simp [h3]

theorem hid {p : Prop} (h : p) : Hid p := h
theorem copy_bytes {P : Program} (w : World) (dT sT ty elem : TypeId) (g o dLen dCap : Nat) (a : Addr) (sLen sCap : Nat) (m cs : List Int) (t : TypeId)
    (hu : P.underlying dT = some (.slice elem)) (hs : (P.info? elem).map (·.size) = some 1)
    (hg : w.heap[g]? = some (.cells (bv m) t (0, 0))) (hn : cs.length = Nat.min sLen dLen)
    (hsrc : ∀ j v, (cs.map (Value.int .u8))[j]? = some v → w.cell? (a.add j) = some v) (hfit : o + cs.length ≤ m.length) :
    (Builtin.copy_ #[dT, sT] ty #[.slice (some ⟨g, o, none⟩) dLen dCap, .slice (some a) sLen sCap]).run P w =
      .ok (goInt cs.length) (w.setRow g (bv (putAt m o cs))) := by
  have h := run_copy_row (P := P) w dT sT ty elem g o dLen dCap a sLen sCap (bv m) t (cs.map (Value.int .u8)) hu hs hg (by rw [List.length_map]; exact hn) hsrc (by rw [List.length_map, bv_size]; exact hfit) (oneCell_map cs)
  rw [List.length_map] at h
  rw [h]
  congr 2
  simp [bv, putAt, List.map_take, List.map_drop]

/-- An append whose run is known. -/
theorem wpList_append_run {P : Program} {w w' : World} {ops : Array Oper} {rest : List Oper} {o : Oper} {a : Act} {Q : Exit → Act → World → Prop} (hgd : o.guard = none) (d s : Operand) (dT sT : TypeId)
    (ho : o.op = .call { callee := .builtin .append, args := #[d, s], argTypes := #[dT, sT] }) (vd vs v : Value) (hd : a.eval d = vd) (hs : a.eval s = vs)
    (hrun : (Builtin.append_ #[dT, sT] o.type #[vd, vs]).run P w = .ok v w')
    (h : wpList P ops Q rest (a.put o.dst v) w') : wpList P ops Q (o :: rest) a w := by
  refine wpList_plain hgd fun K hK => ?_
  unfold Oper.wp
  simp [execOp, ho, resolve, invoke, builtin, hd, hs, hrun, Result.andThen]
  exact hK _ _ h

theorem ret_bool {a b : Bool} (h : a = b) : Ending.returned (.bool a) = .returned (.bool b) := by rw [h]
theorem ret_int {k : IntKind} {a b : Int} (h : a = b) : Ending.returned (.int k a) = .returned (.int k b) := by rw [h]

end Go.Proofs.Ytaoahbobofdimaa
