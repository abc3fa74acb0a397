/- Plain facts on lists of bytes, and on worlds of which all but one block is as it was. No program is named here. · Contracts of package arena's functions: what each call answers and what it does to memory. · Contracts of joinBytes, splitWord, checkWords and Read: what each call answers and what it does to memory. · Contracts of Load, Fill and Store: what each call answers and what it does to memory. · Contracts in terms of arenas: what New, Load, Store, Read, Write, Fill and Same do. -/
import Derived.WalkKit
import Derived.WalkSpells
import Derived.WalkLawsBesides
import Derived.Laws.CopyOwn
import Derived.Test.YtdmnemgooagehaaGreatDoorRows
import Derived.Deep.OwnRows
import Derived.RegionTactic
import Derived.ChangeAlike
namespace Go.Proofs.YtdmnemgooagehaaGreatDoor.Ar
open Go.RowKit

def bv (m : List Int) : Array Value := (m.map (Value.int .u8)).toArray
def putAt (m : List Int) (o : Nat) (cs : List Int) : List Int := m.take o ++ (cs ++ m.drop (o + cs.length))

theorem bv_size (m : List Int) : (bv m).size = m.length := by simp [bv]

theorem bv_get (m : List Int) (i : Nat) (h : i < m.length) : (bv m)[i]? = some (.int .u8 (m[i]?.getD 0)) := by
  simp [bv, h]

theorem putAt_length (m : List Int) (o : Nat) (cs : List Int) (h : o + cs.length ≤ m.length) : (putAt m o cs).length = m.length := by
  simp [putAt]; omega

theorem putAt_nil (m : List Int) (o : Nat) : putAt m o [] = m := by simp [putAt]

theorem putAt_get (m : List Int) (o : Nat) (cs : List Int) (h : o + cs.length ≤ m.length) (i : Nat) :
    (putAt m o cs)[i]? = if i < o then m[i]? else if i < o + cs.length then cs[i - o]? else m[i]? := by
  have hm : min o m.length = o := by omega
  by_cases h1 : i < o
  · simp [putAt, List.getElem?_append, hm, h1]
  · by_cases h2 : i < o + cs.length
    · have : i - o < cs.length := by omega
      simp [putAt, List.getElem?_append, hm, h1, h2, this]
    · have h3 : ¬ i - o < cs.length := by omega
      simp only [putAt, List.getElem?_append, List.length_take, hm, h1, h2, h3, if_false, List.getElem?_drop]
      congr 1; omega

theorem putAt_snoc (m : List Int) (o : Nat) (cs : List Int) (c : Int) (h : o + cs.length < m.length) :
    (putAt m o cs).set (o + cs.length) c = putAt m o (cs ++ [c]) := by
  apply List.ext_getElem?
  intro i
  rw [List.getElem?_set, putAt_length m o cs (by omega), putAt_get m o cs (by omega), putAt_get m o (cs ++ [c]) (by simp; omega)]
  simp only [List.length_append, List.length_cons, List.length_nil]
  by_cases h1 : o + cs.length = i
  · subst h1
    have : ¬ o + cs.length < o := by omega
    simp [h, this]
  · by_cases h2 : i < o
    · simp [h1, h2]
    · by_cases h3 : i < o + cs.length
      · have h4 : i < o + (cs.length + (0 + 1)) := by omega
        have h5 : i - o < cs.length := by omega
        simp [h1, h2, h3, h4, List.getElem?_append, h5]
      · have h4 : ¬ i < o + (cs.length + (0 + 1)) := by omega
        simp [h1, h2, h3, h4]

theorem bv_set (m : List Int) (i : Nat) (c : Int) : (bv m).setIfInBounds i (.int .u8 c) = bv (m.set i c) := by
  apply Array.ext'
  simp [bv, List.map_set]

/-- All blocks that were there, but for one, are as they were. -/
structure But (g : Nat) (w w' : World) : Prop where
  os : w'.os = w.os
  tape : w'.tape = w.tape
  output : w'.output = w.output
  size : w.heap.size ≤ w'.heap.size
  block : ∀ k, k < w.heap.size → k ≠ g → w'.heap[k]? = w.heap[k]?

theorem But.refl (g : Nat) (w : World) : But g w w := ⟨rfl, rfl, rfl, Nat.le_refl _, fun _ _ _ => rfl⟩
theorem But.trans {g : Nat} {a b c : World} (h : But g a b) (k : But g b c) : But g a c :=
  ⟨k.os.trans h.os, k.tape.trans h.tape, k.output.trans h.output, Nat.le_trans h.size k.size,
   fun i hi hg => (k.block i (Nat.lt_of_lt_of_le hi h.size) hg).trans (h.block i hi hg)⟩
theorem But.of_below {g : Nat} {w w' : World} (h : Below w.heap.size w w') : But g w w' :=
  ⟨h.os, h.tape, h.output, h.size, fun k hk _ => h.block k hk⟩
theorem But.drew {g : Nat} {a w : World} (h : But g a w) : But g a w.drew := ⟨h.os, h.tape, h.output, h.size, h.block⟩
theorem But.alloc {g : Nat} {a w : World} (h : But g a w) (o : Obj) : But g a (w.alloc o) :=
  h.trans ⟨rfl, rfl, rfl, by simp, fun k hk _ => Below.heap_alloc _ _ _ hk⟩
theorem But.setCell {g : Nat} {a w : World} (h : But g a w) {p : Addr} (hp : p.block = g ∨ a.heap.size ≤ p.block) (u : Value) : But g a (w.setCell p u) :=
  ⟨h.os, h.tape, h.output, by simpa using h.size, fun k hk hg => by
    rw [Below.heap_setCell _ _ _ _ (by rcases hp with hp | hp <;> omega)]; exact h.block k hk hg⟩
theorem But.setRow {g : Nat} {a w : World} (h : But g a w) {k : Nat} (hp : k = g ∨ a.heap.size ≤ k) (cs : Array Value) : But g a (w.setRow k cs) :=
  ⟨h.os, h.tape, h.output, by simpa using h.size, fun j hj hg => by
    rw [setRow_other w k j cs (by rcases hp with hp | hp <;> omega)]; exact h.block j hj hg⟩
theorem Below.of_but {B g : Nat} {w0 w w' : World} (hb : Below B w0 w) (hB : B ≤ w.heap.size) (h : But g w w') (hg : B ≤ g) : Below B w0 w' :=
  ⟨h.os.trans hb.os, h.tape.trans hb.tape, h.output.trans hb.output, Nat.le_trans hb.size h.size,
   fun k hk => (h.block k (by omega) (by omega)).trans (hb.block k hk)⟩
theorem Below.of_below {B : Nat} {w0 w w' : World} (hb : Below B w0 w) (hB : B ≤ w.heap.size) (h : Below w.heap.size w w') : Below B w0 w' :=
  hb.trans (h.mono hB)

theorem addr_add (g o j : Nat) : (⟨g, o, none⟩ : Addr).add j = ⟨g, o + j, none⟩ := by unfold Addr.add; split <;> simp_all
theorem oneCell_map (l : List Int) : ∀ v ∈ l.map (Value.int .u8), v.oneCell' = true := by
  intro v hv
  obtain ⟨x, _, rfl⟩ := List.mem_map.1 hv
  rfl
theorem madeBytes (k : Nat) : madeCells #[.int .u8 0] k = bv (List.replicate k 0) := by
  apply Array.ext'
  simp [madeCells, bv, Nat.mod_one, List.map_const']

theorem setRow_alloc (w : World) (c cs : Array Value) (t : TypeId) : (w.alloc (.cells c t)).setRow w.heap.size cs = w.alloc (.cells cs t) := by
  unfold World.setRow World.alloc
  congr 1
  apply Array.ext
  · simp
  · intro i h1 h2
    simp only [Array.getElem_modify, Array.getElem_push]
    split
    · rename_i h; subst h; simp
    · rename_i h
      have h3 : i < w.heap.size := by simp at h2; omega
      simp [h3]

theorem hid {p : Prop} (h : p) : Hid p := h
theorem copy_bytes {P : Program} (w : World) (dT sT ty elem : TypeId) (g o dLen dCap : Nat) (a : Addr) (sLen sCap : Nat) (m cs : List Int) (t : TypeId)
    (hu : P.underlying dT = some (.slice elem)) (hs : (P.info? elem).map (·.size) = some 1)
    (hg : w.heap[g]? = some (.cells (bv m) t (0, 0))) (hn : cs.length = Nat.min sLen dLen)
    (hsrc : ∀ j v, (cs.map (Value.int .u8))[j]? = some v → w.cell? (a.add j) = some v) (hfit : o + cs.length ≤ m.length) :
    (Builtin.copy_ #[dT, sT] ty #[.slice (some ⟨g, o, none⟩) dLen dCap, .slice (some a) sLen sCap]).run P w =
      .ok (goInt cs.length) (w.setRow g (bv (putAt m o cs))) := by
  have h := run_copy_row (P := P) w dT sT ty elem g o dLen dCap a sLen sCap (bv m) t (cs.map (Value.int .u8)) hu hs hg (by rw [List.length_map]; exact hn) hsrc (by rw [List.length_map, bv_size]; exact hfit) (oneCell_map cs)
  rw [List.length_map] at h
  rw [h]
  congr 2
  simp [bv, putAt, List.map_take, List.map_drop]

/-- An append whose run is known. -/
theorem wpList_append_run {P : Program} {w w' : World} {ops : Array Oper} {rest : List Oper} {o : Oper} {a : Act} {Q : Exit → Act → World → Prop} (hgd : o.guard = none) (d s : Operand) (dT sT : TypeId)
    (ho : o.op = .call { callee := .builtin .append, args := #[d, s], argTypes := #[dT, sT] }) (vd vs v : Value) (hd : a.eval d = vd) (hs : a.eval s = vs)
    (hrun : (Builtin.append_ #[dT, sT] o.type #[vd, vs]).run P w = .ok v w')
    (h : wpList P ops Q rest (a.put o.dst v) w') : wpList P ops Q (o :: rest) a w := by
  refine wpList_plain hgd fun K hK => ?_
  unfold Oper.wp
  simp [execOp, ho, resolve, invoke, builtin, hd, hs, hrun, Result.andThen]
  exact hK _ _ h

theorem ret_bool {a b : Bool} (h : a = b) : Ending.returned (.bool a) = .returned (.bool b) := by rw [h]
theorem ret_int {k : IntKind} {a b : Int} (h : a = b) : Ending.returned (.int k a) = .returned (.int k b) := by rw [h]

end Go.Proofs.YtdmnemgooagehaaGreatDoor.Ar

namespace Go.Proofs.YtdmnemgooagehaaGreatDoor.Ar
open Go.RowKit

/-- The arena at block b has the bytes m, in block g. -/
structure Arena (w : World) (b g : Nat) (m : List Int) : Prop where
  head : w.heap[b]? = some (.cells #[.slice (some ⟨g, 0, none⟩) m.length m.length] 151)
  body : w.heap[g]? = some (.cells (bv m) 5)
  unlike : b ≠ g
  small : m.length ≤ 1073741824
  byte : ∀ i : Nat, 0 ≤ m[i]?.getD 0 ∧ m[i]?.getD 0 ≤ 255

theorem Arena.cell {w : World} {b g : Nat} {m : List Int} (h : Arena w b g m) : w.cell? ⟨b, 0, none⟩ = some (.slice (some ⟨g, 0, none⟩) m.length m.length) := by
  rw [cell_of_row w b 0 _ _ _ h.head]; rfl
theorem Arena.at {w : World} {b g : Nat} {m : List Int} (h : Arena w b g m) (i : Nat) (hi : i < m.length) : w.cell? ⟨g, i, none⟩ = some (.int .u8 (m[i]?.getD 0)) := by
  rw [cell_of_row w g i _ _ _ h.body, bv_get m i hi]

def errRange (n at_ k : Int) : Int := if at_ < 0 ∨ k < 0 ∨ n - at_ < k then 2 else 0
theorem er_a {n at_ k : Int} (h : at_ < 0) : errRange n at_ k = 2 := by simp [errRange, h]
theorem er_b {n at_ k : Int} (h : k < 0) : errRange n at_ k = 2 := by simp [errRange, h]
theorem er_c {n at_ k : Int} (h : (at_ < 0 ∨ k < 0) ∨ n - at_ < k) : errRange n at_ k = 2 := by
  unfold errRange; rw [if_pos (by omega)]
theorem er_d {n at_ k : Int} (h : (0 ≤ at_ ∧ 0 ≤ k) ∧ k ≤ n - at_) : errRange n at_ k = 0 := by
  unfold errRange; rw [if_neg (by omega)]

set_option maxHeartbeats 400000 in
theorem checkRange_cell (b g : Nat) (n : Nat) (at_ k : Int) (w : World) (hn : n ≤ 1073741824) (ha : at_ < 9223372036854775808)
    (hc : w.cell? ⟨b, 0, none⟩ = some (.slice (some ⟨g, 0, none⟩) n n)) :
    Calls Tryz.prog 102 #[.pointer (some ⟨b, 0, none⟩), .int .i64 at_, .int .i64 k] w fun e w' => e = .returned (.int .i64 (errRange n at_ k)) ∧ w' = w := by
  go_enter Tryz.func102, Tryz.ntmps102
  go_wp2
  · go_ret; exact ⟨ret_int (er_c ‹_›).symm, rfl⟩
  · go_ret; exact ⟨ret_int (er_d ‹_›).symm, rfl⟩
  · go_ret; exact ⟨ret_int (er_b ‹_›).symm, rfl⟩
  · go_ret; exact ⟨ret_int (er_a ‹_›).symm, rfl⟩

theorem checkRange_nil (at_ k : Int) (w : World) :
    Calls Tryz.prog 102 #[.pointer none, .int .i64 at_, .int .i64 k] w fun e w' => e = .returned (.int .i64 1) ∧ w' = w := by
  go_enter Tryz.func102, Tryz.ntmps102
  go_wp2
  go_ret
  exact ⟨rfl, rfl⟩

theorem info5 : (Tryz.prog.info? 5).map (fun i => (i.zero, i.size, i.bytes)) = some (some (.int .u8 0), 1, 1) := by kernel_rfl
theorem info5s : (Tryz.prog.info? 5).map (·.size) = some 1 := by kernel_rfl

set_option maxRecDepth 100000 in
theorem new_raw (n : Nat) (w : World) (h1 : (65536 : Int) ≤ n) (h2 : (n : Int) ≤ 1073741824) (hp : (bits .and .i64 n (n - 1) == 0) = true) :
    Calls Tryz.prog 91 #[.int .i64 n] w fun e w' => e = .returned (.pointer (some ⟨w.heap.size + 1, 0, none⟩)) ∧
      w' = (w.alloc (.cells (madeCells #[.int .u8 0] n) 5)).alloc (.cells #[.slice (some ⟨w.heap.size, 0, none⟩) n n] 151) := by
  have hmk := run_make_row' (P := Tryz.prog) 149 5 (.int .u8 0) 1 Tryz.underlying149 info5 rfl .i64 .i64 n (by omega) (by omega)
  go_enter Tryz.func91, Tryz.ntmps91
  go_wp2
  go_ret
  exact ⟨rfl, rfl⟩

theorem new_no (n : Int) (w : World) (h : n < 65536 ∨ 1073741824 < n) :
    Calls Tryz.prog 91 #[.int .i64 n] w fun e w' => e = .returned (.pointer none) ∧ w' = w := by
  rcases h with h | h
  · go_enter Tryz.func91, Tryz.ntmps91
    go_wp2
    go_ret
    exact ⟨rfl, rfl⟩
  · have h3 : ¬ n < 65536 := by omega
    go_enter Tryz.func91, Tryz.ntmps91
    go_wp2
    go_ret
    exact ⟨rfl, rfl⟩

theorem new_no2 (n : Int) (w : World) (h1 : 65536 ≤ n) (h2 : n ≤ 1073741824) (hp : (bits .and .i64 n (n - 1) == 0) = false) :
    Calls Tryz.prog 91 #[.int .i64 n] w fun e w' => e = .returned (.pointer none) ∧ w' = w := by
  go_enter Tryz.func91, Tryz.ntmps91
  go_wp2
  go_ret
  exact ⟨rfl, rfl⟩


end Go.Proofs.YtdmnemgooagehaaGreatDoor.Ar

namespace Go.Proofs.YtdmnemgooagehaaGreatDoor.Ar
open Go.RowKit

theorem wraps_u64 (n : Int) (h₀ : 0 ≤ n) (h₁ : n < 2 ^ 64) : IntKind.u64.wrap n = n := by rw [IntKind.wrap_u64]; omega
theorem bits_or_comm (k : IntKind) (x y : Int) : bits .or k x y = bits .or k y x := by
  simp only [bits]; rw [BitVec.or_comm]
theorem or_join (i : Nat) (x y : Int) (hx : 0 ≤ x) (hxi : x < 2 ^ i) (hy : 0 ≤ y) (hyi : y % 2 ^ i = 0) (hy64 : y < 2 ^ 64) (hx64 : x < 2 ^ 64) : bits .or .u64 x y = x + y := by
  rw [bits_or_comm, bits_join .u64 64 (by decide) wraps_u64 i y x hy hyi hy64 hx hxi hx64]; omega
theorem or_0 (x : Int) (h : 0 ≤ x) (h' : x < 2 ^ 64) : bits .or .u64 0 x = x := by
  rw [or_join 0 0 x (by omega) (by omega) h (by omega) h' (by omega)]; omega

def word8 (b0 b1 b2 b3 b4 b5 b6 b7 : Int) : Int := b0 + b1 * 256 + b2 * 65536 + b3 * 16777216 + b4 * 4294967296 + b5 * 1099511627776 + b6 * 281474976710656 + b7 * 72057594037927936

theorem join_math (b0 b1 b2 b3 b4 b5 b6 b7 : Int) (h0 : 0 ≤ b0) (h0' : b0 ≤ 255) (h1 : 0 ≤ b1) (h1' : b1 ≤ 255) (h2 : 0 ≤ b2) (h2' : b2 ≤ 255) (h3 : 0 ≤ b3) (h3' : b3 ≤ 255)
    (h4 : 0 ≤ b4) (h4' : b4 ≤ 255) (h5 : 0 ≤ b5) (h5' : b5 ≤ 255) (h6 : 0 ≤ b6) (h6' : b6 ≤ 255) (h7 : 0 ≤ b7) (h7' : b7 ≤ 255) :
    bits .or .u64 (bits .or .u64 (bits .or .u64 (bits .or .u64 (bits .or .u64 (bits .or .u64 (bits .or .u64 (bits .or .u64 0 b0) (b1 * 256)) (b2 * 65536)) (b3 * 16777216)) (b4 * 4294967296)) (b5 * 1099511627776)) (b6 * 281474976710656)) (b7 * 72057594037927936) = word8 b0 b1 b2 b3 b4 b5 b6 b7 := by
  rw [or_0 b0 h0 (by omega), or_join 8 b0 (b1 * 256) (by omega) (by omega) (by omega) (by omega) (by omega) (by omega),
    or_join 16 _ (b2 * 65536) (by omega) (by omega) (by omega) (by omega) (by omega) (by omega),
    or_join 24 _ (b3 * 16777216) (by omega) (by omega) (by omega) (by omega) (by omega) (by omega),
    or_join 32 _ (b4 * 4294967296) (by omega) (by omega) (by omega) (by omega) (by omega) (by omega),
    or_join 40 _ (b5 * 1099511627776) (by omega) (by omega) (by omega) (by omega) (by omega) (by omega),
    or_join 48 _ (b6 * 281474976710656) (by omega) (by omega) (by omega) (by omega) (by omega) (by omega),
    or_join 56 _ (b7 * 72057594037927936) (by omega) (by omega) (by omega) (by omega) (by omega) (by omega)]
  rfl

def bytes8 (b0 b1 b2 b3 b4 b5 b6 b7 : Int) : Array Value := #[.int .u8 b0, .int .u8 b1, .int .u8 b2, .int .u8 b3, .int .u8 b4, .int .u8 b5, .int .u8 b6, .int .u8 b7]

set_option maxHeartbeats 1000000 in
theorem join_any (b0 b1 b2 b3 b4 b5 b6 b7 : Int) (w : World) (h0 : 0 ≤ b0) (h0' : b0 ≤ 255) (h1 : 0 ≤ b1) (h1' : b1 ≤ 255) (h2 : 0 ≤ b2) (h2' : b2 ≤ 255) (h3 : 0 ≤ b3) (h3' : b3 ≤ 255)
    (h4 : 0 ≤ b4) (h4' : b4 ≤ 255) (h5 : 0 ≤ b5) (h5' : b5 ≤ 255) (h6 : 0 ≤ b6) (h6' : b6 ≤ 255) (h7 : 0 ≤ b7) (h7' : b7 ≤ 255) :
    Calls Tryz.prog 101 #[.agg #[.int .u8 b0, .int .u8 b1, .int .u8 b2, .int .u8 b3, .int .u8 b4, .int .u8 b5, .int .u8 b6, .int .u8 b7]] w fun e w' =>
      e = .returned (.int .u64 (word8 b0 b1 b2 b3 b4 b5 b6 b7)) ∧ w' = w.alloc (.cells #[.int .u8 b0, .int .u8 b1, .int .u8 b2, .int .u8 b3, .int .u8 b4, .int .u8 b5, .int .u8 b6, .int .u8 b7] 148) := by
  have i0 : ∀ w, (Instr.index 148 (.agg #[.int .u8 b0, .int .u8 b1, .int .u8 b2, .int .u8 b3, .int .u8 b4, .int .u8 b5, .int .u8 b6, .int .u8 b7]) (.int .i64 0)).run Tryz.prog w = .ok (.int .u8 b0) w := fun _ => by kernel_rfl
  have i1 : ∀ w, (Instr.index 148 (.agg #[.int .u8 b0, .int .u8 b1, .int .u8 b2, .int .u8 b3, .int .u8 b4, .int .u8 b5, .int .u8 b6, .int .u8 b7]) (.int .i64 1)).run Tryz.prog w = .ok (.int .u8 b1) w := fun _ => by kernel_rfl
  have i2 : ∀ w, (Instr.index 148 (.agg #[.int .u8 b0, .int .u8 b1, .int .u8 b2, .int .u8 b3, .int .u8 b4, .int .u8 b5, .int .u8 b6, .int .u8 b7]) (.int .i64 2)).run Tryz.prog w = .ok (.int .u8 b2) w := fun _ => by kernel_rfl
  have i3 : ∀ w, (Instr.index 148 (.agg #[.int .u8 b0, .int .u8 b1, .int .u8 b2, .int .u8 b3, .int .u8 b4, .int .u8 b5, .int .u8 b6, .int .u8 b7]) (.int .i64 3)).run Tryz.prog w = .ok (.int .u8 b3) w := fun _ => by kernel_rfl
  have i4 : ∀ w, (Instr.index 148 (.agg #[.int .u8 b0, .int .u8 b1, .int .u8 b2, .int .u8 b3, .int .u8 b4, .int .u8 b5, .int .u8 b6, .int .u8 b7]) (.int .i64 4)).run Tryz.prog w = .ok (.int .u8 b4) w := fun _ => by kernel_rfl
  have i5 : ∀ w, (Instr.index 148 (.agg #[.int .u8 b0, .int .u8 b1, .int .u8 b2, .int .u8 b3, .int .u8 b4, .int .u8 b5, .int .u8 b6, .int .u8 b7]) (.int .i64 5)).run Tryz.prog w = .ok (.int .u8 b5) w := fun _ => by kernel_rfl
  have i6 : ∀ w, (Instr.index 148 (.agg #[.int .u8 b0, .int .u8 b1, .int .u8 b2, .int .u8 b3, .int .u8 b4, .int .u8 b5, .int .u8 b6, .int .u8 b7]) (.int .i64 6)).run Tryz.prog w = .ok (.int .u8 b6) w := fun _ => by kernel_rfl
  have i7 : ∀ w, (Instr.index 148 (.agg #[.int .u8 b0, .int .u8 b1, .int .u8 b2, .int .u8 b3, .int .u8 b4, .int .u8 b5, .int .u8 b6, .int .u8 b7]) (.int .i64 7)).run Tryz.prog w = .ok (.int .u8 b7) w := fun _ => by kernel_rfl
  go_enter Tryz.func101, Tryz.ntmps101
  go_wp2
  refine wp_loop_rounds 9 ?_
  rw [rounds_succ]; go_wp2
  rw [rounds_succ]; go_wp2
  rw [rounds_succ]; go_wp2
  rw [rounds_succ]; go_wp2
  rw [rounds_succ]; go_wp2
  rw [rounds_succ]; go_wp2
  rw [rounds_succ]; go_wp2
  rw [rounds_succ]; go_wp2
  rw [rounds_succ]; go_wp2
  go_ret
  exact ⟨ret_int (join_math b0 b1 b2 b3 b4 b5 b6 b7 h0 h0' h1 h1' h2 h2' h3 h3' h4 h4' h5 h5' h6 h6' h7 h7'), rfl⟩

def agg8 (x : Int) : Array Value := #[.int .u8 (x % 256), .int .u8 (x / 256 % 256), .int .u8 (x / 65536 % 256), .int .u8 (x / 16777216 % 256), .int .u8 (x / 4294967296 % 256), .int .u8 (x / 1099511627776 % 256), .int .u8 (x / 281474976710656 % 256), .int .u8 (x / 72057594037927936)]

set_option maxHeartbeats 1000000 in
theorem split_any (x : Int) (w : World) (h0 : 0 ≤ x) (h1 : x < 18446744073709551616) :
    Calls Tryz.prog 140 #[.int .u64 x] w fun e w' =>
      e = .returned (.agg #[.int .u8 (x % 256), .int .u8 (x / 256 % 256), .int .u8 (x / 65536 % 256), .int .u8 (x / 16777216 % 256), .int .u8 (x / 4294967296 % 256), .int .u8 (x / 1099511627776 % 256), .int .u8 (x / 281474976710656 % 256), .int .u8 (x / 72057594037927936)]) ∧ Below w.heap.size w w' := by
  go_enter Tryz.func140, Tryz.ntmps140
  go_wp2
  refine wp_loop_rounds 9 ?_
  rw [rounds_succ]; go_wp2
  rw [rounds_succ]; go_wp2
  rw [rounds_succ]; go_wp2
  rw [rounds_succ]; go_wp2
  rw [rounds_succ]; go_wp2
  rw [rounds_succ]; go_wp2
  rw [rounds_succ]; go_wp2
  rw [rounds_succ]; go_wp2
  rw [rounds_succ]; go_wp2
  refine bodyPost_ret (v := .agg #[.int .u8 (x % 256), .int .u8 (x / 256 % 256), .int .u8 (x / 65536 % 256), .int .u8 (x / 16777216 % 256), .int .u8 (x / 4294967296 % 256), .int .u8 (x / 1099511627776 % 256), .int .u8 (x / 281474976710656 % 256), .int .u8 (x / 72057594037927936)]) (by simp [results, go_sem]) rfl ⟨rfl, ?_⟩
  exact ((Below.refl _ _).alloc (Nat.le_refl _) _).alloc (by simp) _

theorem checkWords_cell (b g : Nat) (n : Nat) (at_ : Int) (k : Nat) (w : World) (hn : n ≤ 1073741824) (ha : at_ < 9223372036854775808) (hk : k ≤ 1000000000000)
    (hc : w.cell? ⟨b, 0, none⟩ = some (.slice (some ⟨g, 0, none⟩) n n)) :
    Calls Tryz.prog 100 #[.pointer (some ⟨b, 0, none⟩), .int .i64 at_, .int .i64 k] w fun e w' => e = .returned (.int .i64 (if errRange n at_ (8 * k) = 2 then 2 else if at_ % 8 = 0 then 0 else 3)) ∧ w' = w := by
  by_cases h : errRange n at_ (8 * k) = 2
  · rw [if_pos h]
    go_enter Tryz.func100, Tryz.ntmps100
    go_wp2_with (go_at_call 102; refine (checkRange_cell b g n _ _ _ hn ha hc).mono ?_; rintro e w' ⟨rfl, rfl⟩; rw [Int.mul_comm, h])
    go_ret
    exact ⟨rfl, rfl⟩
  · have h0 : errRange n at_ (8 * k) = 0 := by unfold errRange at h ⊢; split <;> simp_all
    have h1 : 0 ≤ at_ := by unfold errRange at h0; split at h0 <;> simp_all
    rw [if_neg h]
    clear h
    have h0 := h0
    by_cases h8 : at_ % 8 = 0
    · rw [if_pos h8]
      have h8' : ((at_ % 8) != 0) = false := by simp [h8]
      clear h8
      go_enter Tryz.func100, Tryz.ntmps100
      go_wp2_with (go_at_call 102; refine (checkRange_cell b g n _ _ _ hn ha hc).mono ?_; rintro e w' ⟨rfl, rfl⟩; rw [Int.mul_comm, h0])
      go_ret
      exact ⟨rfl, rfl⟩
    · rw [if_neg h8]
      have h8' : ((at_ % 8) != 0) = true := by simp [h8]
      clear h8
      go_enter Tryz.func100, Tryz.ntmps100
      go_wp2_with (go_at_call 102; refine (checkRange_cell b g n _ _ _ hn ha hc).mono ?_; rintro e w' ⟨rfl, rfl⟩; rw [Int.mul_comm, h0])
      go_ret
      exact ⟨rfl, rfl⟩

theorem checkWords_nil (at_ k : Int) (w : World) :
    Calls Tryz.prog 100 #[.pointer none, .int .i64 at_, .int .i64 k] w fun e w' => e = .returned (.int .i64 1) ∧ w' = w := by
  go_enter Tryz.func100, Tryz.ntmps100
  go_wp2_with (go_at_call 102; refine (checkRange_nil _ _ _).mono ?_; rintro e w' ⟨rfl, rfl⟩)
  go_ret
  exact ⟨rfl, rfl⟩

end Go.Proofs.YtdmnemgooagehaaGreatDoor.Ar

namespace Go.Proofs.YtdmnemgooagehaaGreatDoor.Ar
open Go.RowKit

theorem load_er (b g : Nat) (n : Nat) (at_ : Int) (w : World) (hn : n ≤ 1073741824) (ha : at_ < 9223372036854775808) (er : Int) (h0 : (er != 0) = true)
    (hc : w.cell? ⟨b, 0, none⟩ = some (.slice (some ⟨g, 0, none⟩) n n)) (hr : (if errRange n at_ (8 * (1 : Nat)) = 2 then 2 else if at_ % 8 = 0 then 0 else 3) = er) :
    Calls Tryz.prog 39 #[.pointer (some ⟨b, 0, none⟩), .int .i64 at_] w fun e w' => e = .returned (.tuple #[.int .u64 0, .int .i64 er]) ∧ w' = w := by
  have HR := hr; clear hr
  go_enter Tryz.func39, Tryz.ntmps39
  go_wp2_with (go_at_call 100; refine (checkWords_cell b g n _ 1 _ hn ha (by omega) hc).mono ?_; rintro e w' ⟨rfl, rfl⟩; rw [HR])
  go_ret2
  exact ⟨rfl, rfl⟩

theorem load_nil (at_ : Int) (w : World) :
    Calls Tryz.prog 39 #[.pointer none, .int .i64 at_] w fun e w' => e = .returned (.tuple #[.int .u64 0, .int .i64 1]) ∧ w' = w := by
  go_enter Tryz.func39, Tryz.ntmps39
  go_wp2_with (go_at_call 100; refine (checkWords_nil _ _ _).mono ?_; rintro e w' ⟨rfl, rfl⟩)
  go_ret2
  exact ⟨rfl, rfl⟩

set_option maxRecDepth 100000 in
theorem load_some (b g : Nat) (m : List Int) (at_ : Nat) (w : World) (hA : Arena w b g m) (ha : at_ + 8 ≤ m.length) (h8 : (at_ : Int) % 8 = 0) :
    Calls Tryz.prog 39 #[.pointer (some ⟨b, 0, none⟩), .int .i64 at_] w fun e w' => e = .returned (.tuple #[.int .u64 (word8 (m[at_]?.getD 0) (m[at_+1]?.getD 0) (m[at_+2]?.getD 0) (m[at_+3]?.getD 0) (m[at_+4]?.getD 0) (m[at_+5]?.getD 0) (m[at_+6]?.getD 0) (m[at_+7]?.getD 0)), .int .i64 0]) ∧ Below w.heap.size w w' := by
  have hc := hA.cell
  have hn := hA.small
  have hbl : b < w.heap.size := (Array.getElem?_eq_some_iff.1 hA.head).1
  have hgl : g < w.heap.size := (Array.getElem?_eq_some_iff.1 hA.body).1
  have hr : (if errRange m.length at_ (8 * (1 : Nat)) = 2 then 2 else if (at_ : Int) % 8 = 0 then 0 else 3) = (0 : Int) := by
    rw [er_d (by omega), if_neg (by omega), if_pos h8]
  have hne : m.length ≠ at_ := by omega
  have hle : at_ ≤ m.length := by omega
  have hcp := run_copy_row (P := Tryz.prog) (w.alloc (.cells #[.int .u8 0, .int .u8 0, .int .u8 0, .int .u8 0, .int .u8 0, .int .u8 0, .int .u8 0, .int .u8 0] 148)).drew 149 149 3 5 w.heap.size 0 8 8 ⟨g, at_, none⟩ (m.length - at_) (m.length - at_)
    #[.int .u8 0, .int .u8 0, .int .u8 0, .int .u8 0, .int .u8 0, .int .u8 0, .int .u8 0, .int .u8 0] 148
    [.int .u8 (m[at_]?.getD 0), .int .u8 (m[at_+1]?.getD 0), .int .u8 (m[at_+2]?.getD 0), .int .u8 (m[at_+3]?.getD 0), .int .u8 (m[at_+4]?.getD 0), .int .u8 (m[at_+5]?.getD 0), .int .u8 (m[at_+6]?.getD 0), .int .u8 (m[at_+7]?.getD 0)] Tryz.underlying149 info5s
    (by rw [heap_drew, heap_alloc_new]) (by rw [show Nat.min (m.length - at_) 8 = 8 from Nat.min_eq_right (by omega)]; rfl)
    (by
      intro j v hj
      rw [addr_add, World.cell?_drew, World.cell?_alloc_lt (a := ⟨g, at_ + j, none⟩) (h := hgl)]
      match j, hj with
      | 0, hj | 1, hj | 2, hj | 3, hj | 4, hj | 5, hj | 6, hj | 7, hj => rw [hA.at _ (by omega)]; exact hj
      | (n + 8), hj => simp at hj)
    (by simp) (by simp [Value.oneCell'])
  have hcp' : (Builtin.copy_ #[149, 149] 3 #[.slice (some ⟨w.heap.size, 0, none⟩) 8 8, .slice (some ⟨g, at_, none⟩) (m.length - at_) (m.length - at_)]).run Tryz.prog (w.alloc (.cells #[.int .u8 0, .int .u8 0, .int .u8 0, .int .u8 0, .int .u8 0, .int .u8 0, .int .u8 0, .int .u8 0] 148)).drew = .ok (goInt 8) (w.alloc (.cells #[.int .u8 (m[at_]?.getD 0), .int .u8 (m[at_+1]?.getD 0), .int .u8 (m[at_+2]?.getD 0), .int .u8 (m[at_+3]?.getD 0), .int .u8 (m[at_+4]?.getD 0), .int .u8 (m[at_+5]?.getD 0), .int .u8 (m[at_+6]?.getD 0), .int .u8 (m[at_+7]?.getD 0)] 148)).drew := by
    rw [hcp]
    exact congrArg (Result.ok (goInt 8)) (congrArg World.drew (setRow_alloc _ _ _ _))
  clear hcp
  have hby := hA.byte
  clear hA
  go_enter Tryz.func39, Tryz.ntmps39
  go_wp2_with (go_at_call 100; refine (checkWords_cell b g m.length _ 1 _ hn (by omega) (by omega) hc).mono ?_; rintro e w' ⟨rfl, rfl⟩; rw [hr])
  go_region
  go_wp2_with (go_at_call 101; refine (join_any _ _ _ _ _ _ _ _ _ (hby _).1 (hby _).2 (hby _).1 (hby _).2 (hby _).1 (hby _).2 (hby _).1 (hby _).2 (hby _).1 (hby _).2 (hby _).1 (hby _).2 (hby _).1 (hby _).2 (hby _).1 (hby _).2).mono ?_; rintro e w1 ⟨rfl, rfl⟩)
  go_ret2
  refine ⟨rfl, ?_⟩
  exact ((Below.refl _ _).alloc (Nat.le_refl _) _).drew.alloc (by simp) _

theorem fill_er (b g : Nat) (n : Nat) (at_ k c : Int) (w : World) (hn : n ≤ 1073741824) (ha : at_ < 9223372036854775808)
    (hc : w.cell? ⟨b, 0, none⟩ = some (.slice (some ⟨g, 0, none⟩) n n)) (hr : errRange n at_ k = 2) :
    Calls Tryz.prog 40 #[.pointer (some ⟨b, 0, none⟩), .int .i64 at_, .int .i64 k, .int .u8 c] w fun e w' => e = .returned (.int .i64 2) ∧ w' = w := by
  go_enter Tryz.func40, Tryz.ntmps40
  go_wp2_with (go_at_call 102; refine (checkRange_cell b g n _ _ _ hn ha hc).mono ?_; rintro e w' ⟨rfl, rfl⟩; rw [hr])
  go_ret
  exact ⟨rfl, rfl⟩

theorem fill_nil (at_ k c : Int) (w : World) :
    Calls Tryz.prog 40 #[.pointer none, .int .i64 at_, .int .i64 k, .int .u8 c] w fun e w' => e = .returned (.int .i64 1) ∧ w' = w := by
  go_enter Tryz.func40, Tryz.ntmps40
  go_wp2_with (go_at_call 102; refine (checkRange_nil _ _ _).mono ?_; rintro e w' ⟨rfl, rfl⟩)
  go_ret
  exact ⟨rfl, rfl⟩

theorem fill_some (b g : Nat) (m : List Int) (at_ k : Nat) (c : Int) (w : World) (hA : Arena w b g m) (ha : at_ + k ≤ m.length) (h0 : 0 < k) :
    Calls Tryz.prog 40 #[.pointer (some ⟨b, 0, none⟩), .int .i64 at_, .int .i64 k, .int .u8 c] w fun e w' => e = .returned (.int .i64 0) ∧
      w'.heap[g]? = some (.cells (bv (putAt m at_ (List.replicate k c))) 5) ∧ But g w w' := by
  have hc := hA.cell
  have hn := hA.small
  have hr : errRange m.length at_ k = 0 := er_d (by omega)
  have hlt : at_ < m.length := by omega
  have hne : m.length ≠ at_ := by omega
  have hkk : at_ + k - at_ = k := by omega
  have hgb := hA.body
  clear hA
  go_enter Tryz.func40, Tryz.ntmps40
  go_wp2_with (go_at_call 102; refine (checkRange_cell b g m.length _ _ _ hn (by omega) hc).mono ?_; rintro e w' ⟨rfl, rfl⟩; rw [hr])
  go_loopw [30] (fun i wr => ∃ j : Nat, j ≤ k ∧ i = .int .i64 j ∧ Hid (wr.heap[g]? = some (.cells (bv (putAt m at_ (List.replicate j c))) 5)) ∧ But g w' wr) (fun i _ => k - (intOf i).toNat)
  case atStart => exact ⟨0, Nat.zero_le _, rfl, by simpa [Hid, putAt_nil] using hgb, But.refl _ _⟩
  case round =>
    obtain ⟨j, hj, rfl, hrow, hbut⟩ := hrel
    have hpl : (putAt m at_ (List.replicate j c)).length = m.length := putAt_length _ _ _ (by simp; omega)
    by_cases hlj : j < k
    · have hcell := cell_of_row _ g (at_ + j) _ _ _ hrow.out
      rw [bv_get _ _ (by rw [hpl]; omega)] at hcell
      have hfro := frozen_of_row _ g (at_ + j) _ _ hrow.out
      have hnext := heap_setCell_same _ g (at_ + j) _ _ (.int .u8 c) hrow.out
      rw [bv_set] at hnext
      have e := putAt_snoc m at_ (List.replicate j c) c (by simp; omega)
      rw [List.length_replicate] at e
      rw [e, ← List.replicate_succ'] at hnext
      have HN := hid hnext
      clear hnext e hpl hgb
      go_wp2
      exact ⟨⟨j + 1, by omega, by go_num, HN, hbut.setCell (.inl rfl) _⟩, by simp [intOf]; omega⟩
    · obtain rfl : j = k := by omega
      go_wp2
      go_ret
      exact ⟨rfl, hrow.out, hbut⟩

theorem fill_none (b g : Nat) (n : Nat) (at_ : Nat) (c : Int) (w : World) (hn : n ≤ 1073741824) (ha : at_ ≤ n)
    (hc : w.cell? ⟨b, 0, none⟩ = some (.slice (some ⟨g, 0, none⟩) n n)) :
    Calls Tryz.prog 40 #[.pointer (some ⟨b, 0, none⟩), .int .i64 at_, .int .i64 0, .int .u8 c] w fun e w' => e = .returned (.int .i64 0) ∧ w' = w := by
  have hr : errRange n at_ 0 = 0 := er_d (by omega)
  by_cases hna : n = at_
  all_goals
    go_enter Tryz.func40, Tryz.ntmps40
    go_wp2_with (go_at_call 102; refine (checkRange_cell b g n _ _ _ hn (by omega) hc).mono ?_; rintro e w' ⟨rfl, rfl⟩; rw [hr])
    refine wp_loop_rounds 1 ?_
    rw [rounds_succ]
    go_wp2
    go_ret
    exact ⟨rfl, rfl⟩

def bytesOf (x : Int) : List Int := [x % 256, x / 256 % 256, x / 65536 % 256, x / 16777216 % 256, x / 4294967296 % 256, x / 1099511627776 % 256, x / 281474976710656 % 256, x / 72057594037927936]
def wordsBytes (l : List Int) : List Int := l.flatMap bytesOf
theorem wordsBytes_length (l : List Int) : (wordsBytes l).length = 8 * l.length := by
  induction l with
  | nil => rfl
  | cons x r ih => simp [wordsBytes, bytesOf] at ih ⊢; omega
theorem putAt_append (m : List Int) (o : Nat) (xs ys : List Int) (h : o + xs.length + ys.length ≤ m.length) :
    putAt (putAt m o xs) (o + xs.length) ys = putAt m o (xs ++ ys) := by
  apply List.ext_getElem?
  intro i
  rw [putAt_get _ _ _ (by rw [putAt_length _ _ _ (by omega)]; omega), putAt_get m o xs (by omega), putAt_get m o (xs ++ ys) (by simp; omega)]
  rw [List.length_append, List.getElem?_append]
  by_cases h1 : i < o
  · have : i < o + xs.length := by omega
    simp [h1, this]
  · by_cases h2 : i < o + xs.length
    · have h3 : i < o + (xs.length + ys.length) := by omega
      have h4 : i - o < xs.length := by omega
      simp [h1, h2, h3, h4]
    · by_cases h3 : i < o + xs.length + ys.length
      · have h4 : i < o + (xs.length + ys.length) := by omega
        have h5 : ¬ i - o < xs.length := by omega
        simp only [h1, h2, h3, h4, h5, if_true, if_false]
        congr 1; omega
      · have h4 : ¬ i < o + (xs.length + ys.length) := by omega
        simp [h1, h2, h3, h4]

theorem store_er (b g : Nat) (n : Nat) (at_ : Int) (src : Option Addr) (len cap : Nat) (w : World) (hn : n ≤ 1073741824) (ha : at_ < 9223372036854775808) (hk : len ≤ 1000000000000) (er : Int) (h0 : (er != 0) = true)
    (hc : w.cell? ⟨b, 0, none⟩ = some (.slice (some ⟨g, 0, none⟩) n n)) (hr : (if errRange n at_ (8 * len) = 2 then 2 else if at_ % 8 = 0 then 0 else 3) = er) :
    Calls Tryz.prog 90 #[.pointer (some ⟨b, 0, none⟩), .int .i64 at_, .slice src len cap] w fun e w' => e = .returned (.int .i64 er) ∧ w' = w := by
  go_enter Tryz.func90, Tryz.ntmps90
  go_wp2_with (go_at_call 100; refine (checkWords_cell b g n _ len _ hn ha hk hc).mono ?_; rintro e w' ⟨rfl, rfl⟩; rw [hr])
  go_ret
  exact ⟨rfl, rfl⟩

theorem store_nil (at_ : Int) (src : Option Addr) (len cap : Nat) (w : World) :
    Calls Tryz.prog 90 #[.pointer none, .int .i64 at_, .slice src len cap] w fun e w' => e = .returned (.int .i64 1) ∧ w' = w := by
  go_enter Tryz.func90, Tryz.ntmps90
  go_wp2_with (go_at_call 100; refine (checkWords_nil _ _ _).mono ?_; rintro e w' ⟨rfl, rfl⟩)
  go_ret
  exact ⟨rfl, rfl⟩

theorem store_none (b g : Nat) (n : Nat) (at_ : Nat) (src : Option Addr) (cap : Nat) (w : World) (hn : n ≤ 1073741824) (ha : at_ ≤ n) (h8 : (at_ : Int) % 8 = 0)
    (hc : w.cell? ⟨b, 0, none⟩ = some (.slice (some ⟨g, 0, none⟩) n n)) :
    Calls Tryz.prog 90 #[.pointer (some ⟨b, 0, none⟩), .int .i64 at_, .slice src 0 cap] w fun e w' => e = .returned (.int .i64 0) ∧ w' = w := by
  have hr : (if errRange n at_ (8 * (0 : Nat)) = 2 then 2 else if (at_ : Int) % 8 = 0 then 0 else 3) = (0 : Int) := by
    rw [er_d (by omega), if_neg (by omega), if_pos h8]
  go_enter Tryz.func90, Tryz.ntmps90
  go_wp2_with (go_at_call 100; refine (checkWords_cell b g n _ 0 _ hn (by omega) (by omega) hc).mono ?_; rintro e w' ⟨rfl, rfl⟩; rw [hr])
  refine wp_loop_rounds 1 ?_
  rw [rounds_succ]
  go_wp2
  go_ret
  exact ⟨rfl, rfl⟩

set_option maxRecDepth 100000 in
theorem store_some (b g : Nat) (m ws : List Int) (at_ : Nat) (s o cap : Nat) (w : World) (hA : Arena w b g m) (ha : at_ + 8 * ws.length ≤ m.length) (h8 : (at_ : Int) % 8 = 0)
    (hs : s < w.heap.size) (hsg : s ≠ g) (hsrc : ∀ j, j < ws.length → w.cell? ⟨s, o + j, none⟩ = some (.int .u64 (ws[j]?.getD 0))) (hws : ∀ j : Nat, 0 ≤ ws[j]?.getD 0 ∧ ws[j]?.getD 0 < 18446744073709551616) :
    Calls Tryz.prog 90 #[.pointer (some ⟨b, 0, none⟩), .int .i64 at_, .slice (some ⟨s, o, none⟩) ws.length cap] w fun e w' => e = .returned (.int .i64 0) ∧
      w'.heap[g]? = some (.cells (bv (putAt m at_ (wordsBytes ws))) 5) ∧ But g w w' := by
  have hc := hA.cell
  have hn := hA.small
  have hr : (if errRange m.length at_ (8 * ws.length) = 2 then 2 else if (at_ : Int) % 8 = 0 then 0 else 3) = (0 : Int) := by
    rw [er_d (by omega), if_neg (by omega), if_pos h8]
  have hgb := hA.body
  have hbg := hA.unlike
  have hbl : b < w.heap.size := (Array.getElem?_eq_some_iff.1 hA.head).1
  have hgl : g < w.heap.size := (Array.getElem?_eq_some_iff.1 hA.body).1
  have hhd := hid hA.head
  have hsr := hid hsrc
  clear hA hsrc
  go_enter Tryz.func90, Tryz.ntmps90
  go_wp2_with (go_at_call 100; refine (checkWords_cell b g m.length _ ws.length _ hn (by omega) (by omega) hc).mono ?_; rintro e w' ⟨rfl, rfl⟩; rw [hr])
  go_loopw [21] (fun i wr => ∃ j : Nat, j ≤ ws.length ∧ i = .int .i64 j ∧ Hid (wr.heap[g]? = some (.cells (bv (putAt m at_ (wordsBytes (ws.take j)))) 5)) ∧ But g w' wr) (fun i _ => ws.length - (intOf i).toNat)
  case atStart => exact ⟨0, Nat.zero_le _, rfl, by simpa [Hid, putAt_nil, wordsBytes] using hgb, But.refl _ _⟩
  case round =>
    obtain ⟨j, hj, rfl, hrow, hbut⟩ := hrel
    by_cases hlj : j < ws.length
    · have hcb : wr.cell? ⟨b, 0, none⟩ = some (.slice (some ⟨g, 0, none⟩) m.length m.length) := by
        rw [cell_of_row wr b 0 _ _ _ ((hbut.block b hbl hbg).trans hhd.out)]; rfl
      have hcs : wr.cell? ⟨s, o + j, none⟩ = some (.int .u64 (ws[j]?.getD 0)) := by
        rw [World.cell?_of_block (w := w') (hbut.block s hs hsg)]; exact hsr.out j hlj
      obtain ⟨hx0, hx1⟩ := hws j
      generalize hx : ws[j]?.getD 0 = x at *
      have HX := hid hx
      clear hx hws hc
      go_wp2_with (go_at_call 140; refine (split_any x _ hx0 hx1).mono ?_; rintro e w1 ⟨rfl, hb1⟩)
      have hs1 := hb1.size
      have hs2 := hbut.size
      have hpl : (putAt m at_ (wordsBytes (List.take j ws))).length = m.length := putAt_length _ _ _ (by rw [wordsBytes_length, List.length_take]; omega)
      have hcb1 : w1.cell? ⟨b, 0, none⟩ = some (.slice (some ⟨g, 0, none⟩) m.length m.length) := by
        rw [hb1.cell (p := ⟨b, 0, none⟩) (by show b < _; omega)]; exact hcb
      have hbl1 : b < w1.heap.size := by omega
      have hrow1 : w1.heap[g]? = some (.cells (bv (putAt m at_ (wordsBytes (List.take j ws)))) 5) := by
        rw [hb1.block g (by omega)]; exact hrow.out
      have hcp := copy_bytes (P := Tryz.prog) (w1.alloc (.cells #[.int .u8 (x % 256), .int .u8 (x / 256 % 256), .int .u8 (x / 65536 % 256), .int .u8 (x / 16777216 % 256), .int .u8 (x / 4294967296 % 256), .int .u8 (x / 1099511627776 % 256), .int .u8 (x / 281474976710656 % 256), .int .u8 (x / 72057594037927936)] 148)).drew 149 149 3 5
        g (at_ + j * 8) (m.length - (at_ + j * 8)) (m.length - (at_ + j * 8)) ⟨w1.heap.size, 0, none⟩ 8 8 _ (bytesOf x) 5 Tryz.underlying149 info5s
        (by rw [heap_drew, Below.heap_alloc _ _ _ (by omega)]; exact hrow1) (by rw [show Nat.min 8 (m.length - (at_ + j * 8)) = 8 from Nat.min_eq_left (by omega)]; rfl)
        (by
          intro i v hi
          rw [addr_add, World.cell?_drew, cell_of_row _ _ _ _ _ _ (heap_alloc_new _ _), Nat.zero_add]
          simpa [bytesOf] using hi)
        (by rw [hpl, show (bytesOf x).length = 8 from rfl]; omega)
      have hne : m.length ≠ at_ + j * 8 := by omega
      have hle : at_ + j * 8 ≤ m.length := by omega
      have hnext : putAt (putAt m at_ (wordsBytes (List.take j ws))) (at_ + j * 8) (bytesOf x) = putAt m at_ (wordsBytes (List.take (j + 1) ws)) := by
        have e1 : (wordsBytes (List.take j ws)).length = j * 8 := by rw [wordsBytes_length, List.length_take]; omega
        have e2 : List.take (j + 1) ws = List.take j ws ++ [x] := by
          rw [List.take_succ_eq_append_getElem hlj, ← HX.out, List.getElem?_eq_getElem hlj]; rfl
        have e3 := putAt_append m at_ (wordsBytes (List.take j ws)) (bytesOf x) (by rw [e1, show (bytesOf x).length = 8 from rfl]; omega)
        rw [e1] at e3
        rw [e3, e2]
        exact congrArg (fun l => putAt m at_ l) (by simp [wordsBytes])
      rw [hnext, show ((bytesOf x).length : Int) = 8 from rfl] at hcp
      have HR1 := hid hrow1
      clear hnext hrow1 hpl hgb hcb hcs
      go_region
      go_wp2
      refine ⟨⟨j + 1, by omega, by go_num, ?_, ?_⟩, by simp [intOf]; omega⟩
      · exact setRow_heap _ g _ _ 5 _ (by rw [heap_drew, Below.heap_alloc _ _ _ (by omega)]; exact HR1.out)
      · exact ((hbut.trans (But.of_below hb1)).alloc _).drew.setRow (.inl rfl) _
    · obtain rfl : j = ws.length := by omega
      rw [List.take_length] at hrow
      go_wp2
      go_ret
      exact ⟨rfl, hrow.out, hbut⟩

end Go.Proofs.YtdmnemgooagehaaGreatDoor.Ar

namespace Go.Proofs.YtdmnemgooagehaaGreatDoor.Ar
open Go.RowKit

/-- All numbers of a list are a byte's. -/
def Byte (m : List Int) : Prop := ∀ i : Nat, 0 ≤ m[i]?.getD 0 ∧ m[i]?.getD 0 ≤ 255
theorem byte_putAt (m cs : List Int) (o : Nat) (h : o + cs.length ≤ m.length) (hm : Byte m) (hc : Byte cs) : Byte (putAt m o cs) := by
  intro i
  rw [putAt_get m o cs h i]
  split
  · exact hm i
  · split
    · exact hc _
    · exact hm i
theorem byte_replicate (k : Nat) (c : Int) (h0 : 0 ≤ c) (h1 : c ≤ 255) : Byte (List.replicate k c) := by
  intro i
  by_cases h : i < k
  · simp [h]; omega
  · simp [h]
theorem byte_bytesOf (x : Int) (h0 : 0 ≤ x) (h1 : x < 18446744073709551616) : Byte (bytesOf x) := by
  intro i
  match i with
  | 0 | 1 | 2 | 3 | 4 | 5 | 6 | 7 => simp only [bytesOf, List.getElem?_cons_zero, List.getElem?_cons_succ, Option.getD_some]; omega
  | (n + 8) => simp [bytesOf]
theorem byte_append (xs ys : List Int) (hx : Byte xs) (hy : Byte ys) : Byte (xs ++ ys) := by
  intro i
  rw [List.getElem?_append]
  split
  · exact hx i
  · exact hy _
theorem byte_nil : Byte [] := by intro i; simp
def Word (l : List Int) : Prop := ∀ j : Nat, 0 ≤ l[j]?.getD 0 ∧ l[j]?.getD 0 < 18446744073709551616
theorem byte_words : ∀ (l : List Int), Word l → Byte (wordsBytes l)
  | [], _ => byte_nil
  | x :: r, h => by
    have h0 := h 0
    simp at h0
    have hr : Word r := fun j => by have := h (j + 1); simpa using this
    have := byte_append _ _ (byte_bytesOf x h0.1 h0.2) (byte_words r hr)
    simpa [wordsBytes] using this

theorem Arena.turn {w w' : World} {b g : Nat} {m m' : List Int} (hA : Arena w b g m) (hb : But g w w') (hrow : w'.heap[g]? = some (.cells (bv m') 5)) (hl : m'.length = m.length) (hby : Byte m') : Arena w' b g m' :=
  ⟨by rw [hb.block b (Array.getElem?_eq_some_iff.1 hA.head).1 hA.unlike, hA.head, hl], hrow, hA.unlike, by rw [hl]; exact hA.small, hby⟩
theorem Arena.below {w w' : World} {b g : Nat} {m : List Int} (hA : Arena w b g m) (hb : Below w.heap.size w w') : Arena w' b g m :=
  ⟨by rw [hb.block b (Array.getElem?_eq_some_iff.1 hA.head).1]; exact hA.head, by rw [hb.block g (Array.getElem?_eq_some_iff.1 hA.body).1]; exact hA.body, hA.unlike, hA.small, hA.byte⟩
theorem Arena.lt {w : World} {b g : Nat} {m : List Int} (hA : Arena w b g m) : b < w.heap.size ∧ g < w.heap.size :=
  ⟨(Array.getElem?_eq_some_iff.1 hA.head).1, (Array.getElem?_eq_some_iff.1 hA.body).1⟩

def zeros (n : Nat) : List Int := List.replicate n 0
theorem zeros_length (n : Nat) : (zeros n).length = n := by simp [zeros]
theorem zeros_get (n i : Nat) : (zeros n)[i]?.getD 0 = 0 := by
  by_cases h : i < n <;> simp [zeros, h]

theorem new_ok (n : Nat) (w : World) (h1 : (65536 : Int) ≤ n) (h2 : (n : Int) ≤ 1073741824) (hp : (bits .and .i64 n (n - 1) == 0) = true) :
    Calls Tryz.prog 91 #[.int .i64 n] w fun e w' => ∃ b g, e = .returned (.pointer (some ⟨b, 0, none⟩)) ∧ Arena w' b g (zeros n) ∧ Below w.heap.size w w' ∧ w.heap.size ≤ b ∧ w.heap.size ≤ g := by
  refine (new_raw n w h1 h2 hp).mono ?_
  rintro e w' ⟨rfl, rfl⟩
  refine ⟨w.heap.size + 1, w.heap.size, rfl, ⟨?_, ?_, by omega, ?_, ?_⟩, ?_, by omega, by omega⟩
  · rw [heap_alloc2_new, zeros_length]
  · rw [heap_alloc2_old, madeBytes]; rfl
  · rw [zeros_length]; omega
  · intro i; rw [zeros_get]; omega
  · exact ((Below.refl _ _).alloc (Nat.le_refl _) _).alloc (by simp) _

theorem fill_ok (b g : Nat) (m : List Int) (at_ k c : Int) (w : World) (hA : Arena w b g m) (h0 : 0 ≤ at_) (h1 : 0 ≤ k) (h2 : at_ + k ≤ m.length) (hc : 0 ≤ c) (hc' : c ≤ 255) :
    Calls Tryz.prog 40 #[.pointer (some ⟨b, 0, none⟩), .int .i64 at_, .int .i64 k, .int .u8 c] w fun e w' => e = .returned (.int .i64 0) ∧
      Arena w' b g (putAt m at_.toNat (List.replicate k.toNat c)) ∧ But g w w' := by
  obtain ⟨a, rfl⟩ := Int.eq_ofNat_of_zero_le h0
  obtain ⟨n, rfl⟩ := Int.eq_ofNat_of_zero_le h1
  simp only [Int.toNat_natCast]
  by_cases hk : n = 0
  · subst hk
    refine (fill_none b g m.length a c w hA.small (by omega) hA.cell).mono ?_
    rintro e w' ⟨rfl, rfl⟩
    exact ⟨rfl, by simpa [putAt_nil] using hA, But.refl _ _⟩
  · refine (fill_some b g m a n c w hA (by omega) (by omega)).mono ?_
    rintro e w' ⟨rfl, hr, hb⟩
    exact ⟨rfl, hA.turn hb hr (putAt_length _ _ _ (by simp; omega)) (byte_putAt _ _ _ (by simp; omega) hA.byte (byte_replicate _ _ hc hc')), hb⟩

theorem store_ok (b g : Nat) (m ws : List Int) (at_ : Int) (s o cap : Nat) (w : World) (hA : Arena w b g m) (h0 : 0 ≤ at_) (ha : at_ + 8 * ws.length ≤ m.length) (h8 : at_ % 8 = 0)
    (hs : s < w.heap.size) (hsg : s ≠ g) (hsrc : ∀ j, j < ws.length → w.cell? ⟨s, o + j, none⟩ = some (.int .u64 (ws[j]?.getD 0))) (hws : Word ws) :
    Calls Tryz.prog 90 #[.pointer (some ⟨b, 0, none⟩), .int .i64 at_, .slice (some ⟨s, o, none⟩) ws.length cap] w fun e w' => e = .returned (.int .i64 0) ∧
      Arena w' b g (putAt m at_.toNat (wordsBytes ws)) ∧ But g w w' := by
  obtain ⟨a, rfl⟩ := Int.eq_ofNat_of_zero_le h0
  simp only [Int.toNat_natCast]
  refine (store_some b g m ws a s o cap w hA (by omega) h8 hs hsg hsrc hws).mono ?_
  rintro e w' ⟨rfl, hr, hb⟩
  have hl : a + (wordsBytes ws).length ≤ m.length := by rw [wordsBytes_length]; omega
  exact ⟨rfl, hA.turn hb hr (putAt_length _ _ _ hl) (byte_putAt _ _ _ hl hA.byte (byte_words ws hws)), hb⟩

def wordAt (m : List Int) (a : Nat) : Int := word8 (m[a]?.getD 0) (m[a+1]?.getD 0) (m[a+2]?.getD 0) (m[a+3]?.getD 0) (m[a+4]?.getD 0) (m[a+5]?.getD 0) (m[a+6]?.getD 0) (m[a+7]?.getD 0)

theorem load_ok (b g : Nat) (m : List Int) (at_ : Int) (w : World) (hA : Arena w b g m) (h0 : 0 ≤ at_) (ha : at_ + 8 ≤ m.length) (h8 : at_ % 8 = 0) :
    Calls Tryz.prog 39 #[.pointer (some ⟨b, 0, none⟩), .int .i64 at_] w fun e w' => e = .returned (.tuple #[.int .u64 (wordAt m at_.toNat), .int .i64 0]) ∧ Below w.heap.size w w' := by
  obtain ⟨a, rfl⟩ := Int.eq_ofNat_of_zero_le h0
  simp only [Int.toNat_natCast]
  exact load_some b g m a w hA (by omega) h8

/-- The word whose bytes stand there is loaded. -/
theorem word_bytes (x : Int) (_h0 : 0 ≤ x) (_h1 : x < 18446744073709551616) : word8 (x % 256) (x / 256 % 256) (x / 65536 % 256) (x / 16777216 % 256) (x / 4294967296 % 256) (x / 1099511627776 % 256) (x / 281474976710656 % 256) (x / 72057594037927936) = x := by
  unfold word8; omega
theorem wordAt_put (m : List Int) (o : Nat) (x : Int) (h : o + 8 ≤ m.length) (h0 : 0 ≤ x) (h1 : x < 18446744073709551616) : wordAt (putAt m o (bytesOf x)) o = x := by
  have e : ∀ i, i < 8 → (putAt m o (bytesOf x))[o + i]? = (bytesOf x)[i]? := by
    intro i hi
    rw [putAt_get m o (bytesOf x) (by simpa [bytesOf] using h), if_neg (by omega), if_pos (by simp [bytesOf]; omega)]
    congr 1; omega
  have e0 := e 0 (by omega)
  unfold wordAt
  rw [Nat.add_zero] at e0
  rw [e0, e 1 (by omega), e 2 (by omega), e 3 (by omega), e 4 (by omega), e 5 (by omega), e 6 (by omega), e 7 (by omega)]
  exact word_bytes x h0 h1

end Go.Proofs.YtdmnemgooagehaaGreatDoor.Ar
