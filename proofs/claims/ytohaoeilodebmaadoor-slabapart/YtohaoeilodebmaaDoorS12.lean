/- A map whose values are pointers to slabs: how they read; a look-up. -/
import Derived.Test.YtohaoeilodebmaaDoorS11
import Derived.Maps.OwnOps
namespace Go.Proofs.YtohaoeilodebmaaDoor
open Go.RowKit Go.Maps

/-- A pointer to a whole block reads as the block's number, nil as nil. -/
def ptrElem (v : Value) : Option (DataW Unit × List MemPlace) :=
  match v with
  | .pointer none => some (.nil, [])
  | .pointer (some ⟨b, 0, none⟩) => some (.lit (.int .i64 (b : Int)), [])
  | _ => none
theorem ptrElem_mk (b : Nat) : ptrElem (.pointer (some ⟨b, 0, none⟩)) = some (.lit (.int .i64 (b : Int)), []) := rfl
theorem ptrElem_nil : ptrElem (.pointer none) = some (.nil, []) := rfl
theorem ptrElem_inv {v : Value} {d : DataW Unit} {ps : List MemPlace} (h : ptrElem v = some (d, ps)) : (v = .pointer none ∧ d = .nil) ∨ ∃ b : Nat, v = .pointer (some ⟨b, 0, none⟩) ∧ d = .lit (.int .i64 (b : Int)) := by
  unfold ptrElem at h
  split at h
  · left
    simp at h
    exact ⟨rfl, h.1.symm⟩
  · right
    simp at h
    exact ⟨_, rfl, h.1.symm⟩
  · cases h
/-- The map of slabs. -/
abbrev Pmap (w : World) (m n : Nat) (D : DataW Unit) : Prop := w.ownsMap Tryd.prog 3 ptrElem m n D
theorem zero82 (w : World) : (zeroValue 82).run Tryd.prog w = .ok (.pointer none) w := by kernel_rfl
/-- 'm[k]' at pointers: nil, or a block. -/
theorem wpList_lookup_ptr (w : World) {ops : Array Oper} {rest : List Oper} {o : Oper} {a : Act} {Q : Exit → Act → World → Prop} (hg : o.guard = none) (m x : Operand) (hop : o.op = Op.lookup 75 m x false) (b n : Nat) (D : DataW Unit)
    (hm : a.eval m = .map (some b)) (hown : Pmap w b n D) (key : Value) (kl : Lit) (hx : a.eval x = key) (hkey : keyOf Tryd.prog 3 key = some kl)
    (hK : ∀ s : Option Nat, (match s with | none => D.atKey kl .nil = .nil | some s => D.atKey kl .nil = .lit (.int .i64 (s : Int))) → wpList Tryd.prog ops Q rest (a.put o.dst (.pointer (s.map fun s => ⟨s, 0, none⟩))) w) :
    wpList Tryd.prog ops Q (o :: rest) a w := by
  refine wpList_plain hg fun K' hK' => ?_
  obtain ⟨v, ps, hrun, hv⟩ := hown.lookup law3 Tryd.underlying75 (zero82 w) ptrElem_nil hkey
  unfold Oper.wp
  simp [execOp, hop, hm, hx, hrun, Result.andThen]
  rcases ptrElem_inv hv with ⟨rfl, hd⟩ | ⟨s, rfl, hd⟩
  · exact hK' _ _ (hK none hd)
  · exact hK' _ _ (hK (some s) hd)
end Go.Proofs.YtohaoeilodebmaaDoor
