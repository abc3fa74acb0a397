/- Loops over a function: what a round's region may do, and the marks that are left behind. No program is named here. -/
import Derived.RangeFuncNested
import Derived.RangeFuncBound
import Derived.RangeFuncCalls
import Derived.RangeFuncLeaves
import Derived.RangeFuncBox
import Derived.Shelf.Abstract
import Derived.Shelf.RegionOpen
import Derived.OwnWalkIn
import Derived.TacticsInMore
import Derived.LoopNIn
import Derived.LoopIn
import Derived.Maps.AppendAt
import Derived.Test.YtgoennbbpndiiaaG
namespace Go.Proofs.Ytgoennbbpndiiaa
open Go.RowKit Go.Maps Go.Shelf

theorem oper_inRound {P : Program} {o : Oper} {a : Act} {w : World} {K : Act → World → Prop} {Q : Exit → Act → World → Prop} (l n : Nat) (hd : ∀ c, o.op ≠ .defer c) (h : o.wp P a w K Q) : o.wpIn (Fence.wide.inRound l) n P a w K Q := by
  refine ⟨fun _ _ => trivial, ?_⟩
  have e : Oper.semAt (Fence.wide.inRound l).round a.eval o = execOp a.eval o := Oper.semAt_eq _ _ _ hd
  rw [e]
  unfold Oper.wp at h
  generalize (execOp a.eval o).run P w = r at h ⊢
  cases r with
  | ok x w' =>
    cases x with
    | value v => exact h
    | skip => exact h
    | defer d => exact h
    | enter f args => exact ⟨fun hx => by simp [Fence.inRound, Fence.wide] at hx, CallsIn.inRound l (callsIn_wide.2 h)⟩
    | row row args => exact ⟨fun hx => by simp [Fence.inRound, Fence.wide] at hx, fun c cs _ => by
        obtain ⟨v, w'', hr, hs⟩ := h c cs
        exact ⟨v, w'', hr, stepsIn_wide.2 hs⟩⟩
    | round => exact h.elim
    | _ => exact h.elim
  | halt hh w' =>
    cases hh with
    | panic v => exact h
    | _ => exact h.elim
theorem any_inRound {P : Program} {ops : Array Oper} {Q : Exit → Act → World → Prop} {md : Region.Mode} (l n : Nat) (hd : ∀ (i : Nat) (o : Oper), ops[i]? = some o → ∀ c, o.op ≠ Op.defer c) (hQ : ¬ LetsOut Q) : ∀ (fuel : Nat) (listed : Array Bool) (a : Act) (w : World), wpAny P md ops Q fuel listed a w → wpAnyIn (Fence.wide.inRound l) n P md ops Q fuel listed a w
  | 0, _, _, _, h => h
  | fuel + 1, _, a, w, h => ⟨h.1, fun i hi => by
      have h2 := h.2 i hi
      unfold wpOp at h2
      unfold wpOpIn
      cases ho : ops[i]? with
      | none =>
        rw [ho] at h2
        exact any_inRound l n hd hQ fuel _ a w h2
      | some o =>
        rw [ho] at h2
        simp only at h2 ⊢
        split
        · rename_i hw
          rw [if_pos hw] at h2
          rcases h2 with h2 | h2
          · have h3 := oper_inRound l n (hd i o ho) h2
            refine ⟨h3.1, ?_⟩
            have h4 := h3.2
            revert h4
            generalize (Oper.semAt (Fence.wide.inRound l).round a.eval o).run P w = r
            intro h4
            cases r with
            | ok x w' =>
              cases x with
              | value v => exact any_inRound l n hd hQ fuel _ _ _ h4
              | skip => exact any_inRound l n hd hQ fuel _ _ _ h4
              | defer d => exact any_inRound l n hd hQ fuel _ _ _ h4
              | enter f args => exact ⟨h4.1, h4.2.mono (fun e w'' h5 => by
                  cases e with
                  | returned v => exact any_inRound l n hd hQ fuel _ _ _ h5
                  | panicked c => exact h5
                  | outgrown => exact h5)⟩
              | row row args => exact ⟨h4.1, h4.2.mono (fun v w'' h5 => any_inRound l n hd hQ fuel _ _ _ h5)⟩
              | round l' f tm asg bd => exact ⟨h4.1, h4.2.mono (fun e w'' h5 => by
                  cases e with
                  | returned v => exact any_inRound l n hd hQ fuel _ _ _ h5
                  | panicked c => exact h5
                  | outgrown => exact h5)⟩
              | _ => exact h4
            | halt hh w' =>
              cases hh with
              | panic v => exact h4
              | _ => exact h4.elim
          · exact absurd h2.2 hQ
        · rename_i hw
          rw [if_neg hw] at h2
          exact ⟨fun _ _ => trivial, any_inRound l n hd hQ fuel _ _ _ h2⟩⟩
/-- A region that draws, inside a round: as outside. -/
theorem held_inRound {P : Program} {ops : Array Oper} {Q : Exit → Act → World → Prop} {S : World → Prop} {id l n : Nat} {a : Act} {w : World} (hm : P.follows .mixedOrders = true) (hd : ∀ (i : Nat) (o : Oper), ops[i]? = some o → ∀ c, o.op ≠ Op.defer c) (hQ : ¬ LetsOut Q) (hS : S w.drew)
    (h : S w.drew → wpAnyH P .any ops Q S ops.size (Array.replicate ops.size false) a w.drew) : (Code.region id ops true).wpIn (Fence.wide.inRound l) n P Q a w :=
  wpIn_region_any hm (any_inRound l n hd hQ _ _ _ _ (wpAny_of_held _ _ _ _ (h hS)))

/-- Marks of loops over functions. -/
def marks (Ds : List Nat) : List Deferred := Ds.map fun D => { target := .collected D, args := #[] }
theorem leaves_marks {F : Fence} {n : Nat} {P : Program} {fn : Func} {tmps : Array Value} {R : Ending → World → Prop} : ∀ (Ds : List Nat) (W : World) (I : World → Prop), I W → (∀ D, D ∈ Ds → W.heap[D]? = some (.deferred (some []))) → Ds.Nodup →
    (∀ W D, D ∈ Ds → I W → W.heap[D]? = some (.deferred (some [])) → I (W.putObj D (.deferred none))) → (∀ W, I W → LeavesInM F n P fn tmps R [] .returning W) → LeavesInM F n P fn tmps R (marks Ds) .returning W
  | [], W, I, hI, _, _, _, hend => hend W hI
  | D :: Ds, W, I, hI, hD, hn, hs, hend => by
    refine ⟨by simp, .inl ⟨D, _, rfl, run_takeDeferred (hD D (by simp)), ?_⟩⟩
    have hn2 := List.nodup_cons.1 hn
    refine leaves_marks Ds _ I (hs W D (by simp) hI (hD D (by simp))) (fun D' hD' => ?_) hn2.2 (fun W D' hD' => hs W D' (by simp [hD'])) hend
    have hne : D ≠ D' := fun e => hn2.1 (e ▸ hD')
    have h1 := hD D' (by simp [hD'])
    simp only [World.putObj]
    rw [Array.getElem?_setIfInBounds_ne hne]
    exact h1
def nodef (o : Oper) : Bool := match o.op with | .defer _ => false | _ => true
theorem nodef_of {ops : Array Oper} (h : ops.toList.all nodef = true) : ∀ (i : Nat) (o : Oper), ops[i]? = some o → ∀ c, o.op ≠ Op.defer c := fun i o ho c e => by
  have hm : o ∈ ops.toList := by rw [Array.mem_toList_iff]; exact Array.mem_of_getElem? ho
  have := List.all_eq_true.1 h o hm
  unfold nodef at this
  rw [e] at this
  cases this

/-- An append whose run is known, at a step of a region that draws. -/
theorem step_append_run {P : Program} (w w' : World) (v' : Value) {ops : Array Oper} {o : Oper} {a : Act} {K : Act → World → Prop} {Q : Exit → Act → World → Prop} {E : Prop} (hgd : o.guard = none) (s x : Operand) (t : TypeId)
    (ho : o.op = .call { callee := .builtin .append, args := #[s, x], argTypes := #[t, t] }) (v y : Value) (hs : a.eval s = v) (hx : a.eval x = y) (hr : (Builtin.append_ #[t, t] o.type #[v, y]).run P w = .ok v' w') (h : K (a.put o.dst v') w') :
    if Region.wanted o (yielded ops a.tmps) = true then Oper.wp P o a w K Q else E := by
  have hw : Region.wanted o (yielded ops a.tmps) = true := by simp [Region.wanted, hgd]
  rw [if_pos hw]
  unfold Oper.wp
  simp [execOp, ho, resolve, invoke, builtin, hs, hx, hr, Result.andThen]
  exact h

/-- An operation of a region that draws is taken first; where its answer goes is written out. -/
theorem takeH {P : Program} {ops : Array Oper} {Q : Exit → Act → World → Prop} {md : Region.Mode} {S : World → Prop} {i : Nat} {oi : Oper} (d : Option Tmp) (v : Value) {fuel : Nat} {listed : Array Bool} {a : Act} {w : World} (hi : ops[i]? = some oi) (hd : oi.dst = d)
    (hs : Region.noSelect ops = true) (hf : Region.free md ops listed i = true) (hr : (Region.ready md ops listed).contains i = true)
    (hQ : ∀ c a w, Q (.panic c) (a.put oi.dst v) w → Q (.panic c) a w) (hy : YieldsIf P ops S oi v a) (hS : S w)
    (h : wpAnyH P md ops Q S fuel (listed.setIfInBounds i true) (a.put d v) w) : wpAnyH P md ops Q S (fuel + 1) listed a w := by
  subst hd
  exact wpAnyH_take hi hs hf hr hQ hy hS h
theorem lt_of {w : World} {x : Nat} {o : Obj} (h : w.heap[x]? = some o) : x < w.heap.size := (Array.getElem?_eq_some_iff.1 h).1
theorem grownBy_drewN (w : World) (q : Nat) : w.grownBy (w.drewN q) none := ⟨rfl, rfl, rfl, Nat.le_refl _, fun _ _ _ => rfl⟩
end Go.Proofs.Ytgoennbbpndiiaa
