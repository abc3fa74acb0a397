/- A loop over a function that keeps a state of its own in memory: the loop's record is told, and a round is told by its body's walk. No program is named here. -/
import Derived.Test.YtgoennbbpndiiaaGr
namespace Go.Proofs.Ytgoennbbpndiiaa
open Go.RowKit Go.Maps Go.Shelf
attribute [local go_sem] Oper.semAt_some

/-- An append whose run is known, inside a fence. -/
theorem wpListIn_append_run {F : Fence} {n : Nat} {P : Program} {w w' : World} {ops : Array Oper} {rest : List Oper} {o : Oper} {a : Act} {Q : Exit → Act → World → Prop} (hg : o.guard = none) (s x : Operand) (t u : TypeId)
    (hop : o.op = .call { callee := .builtin .append, args := #[s, x], argTypes := #[t, u] }) (v y r : Value) (hs : a.eval s = v) (hx : a.eval x = y) (hrun : (Builtin.append_ #[t, u] o.type #[v, y]).run P w = .ok r w')
    (h : wpListIn F n P ops Q rest (a.put o.dst r) w') : wpListIn F n P ops Q (o :: rest) a w := by
  refine wpListIn_plain hg fun K hK' => ?_
  unfold Oper.wpIn
  refine ⟨?_, ?_⟩
  · simp [Oper.about, hop, resolve, Target.leads, Sem.run_pure]
  · rw [Oper.semAt_plain F _ _ (by rw [hop]; intro c hc'; cases hc')]
    simp [execOp, hop, resolve, invoke, builtin, hs, hx, hrun, Result.andThen]
    exact hK' _ _ h

/-- A round's body falls off its end. -/
def Falls (K : World → Prop) : Exit → Act → World → Prop
  | .normal, _, w => K w
  | _, _, _ => False
/-- What is known of a loop that is under way: its record, and what a round is. -/
structure Under (P : Program) (n : Nat) (l D : Nat) (ps : Array Tmp) (tmps : Array Value) (assign body : Code) (rec : LoopState → Obj) : Prop where
  loop : ∀ s, ∃ r : Loop, rec s = .loop r
  round : ∀ (args : Array Value) (W : World) (K : World → Prop), W.heap[l]? = some (rec .ready) → args.size = ps.size →
    assign.wpIn (Fence.wide.inRound l) n P (Exit.then (fun a' W' => W'.heap[l]? = some (rec .ready) ∧ body.wpIn (Fence.wide.inRound l) n P (Falls fun W3 => W3.heap[l]? = some (rec .busy) ∧ K (W3.putObj l (rec .ready))) a' (W'.putObj l (rec .busy))) (fun _ _ _ => False))
      { tmps := (ps.zip args).foldl (fun t (p, v) => t.setIfInBounds p v) tmps, defers := [] } W →
    YieldAt Fence.wide n P l args W fun e W' => e = .returned (.bool true) ∧ K W'

theorem range_under {P : Program} {n : Nat} {g : Operand} {ps : Array Tmp} {assign body : Code} {Q : Exit → Act → World → Prop} {a : Act} {w : World} (h1 : 1 ≤ n) {gf : Nat} {lb : Array Value}
    (hg : a.eval g = .func (.func gf) #[] lb) (eg : ∀ args w, (callFunc gf args).run P w = .ok (.enter gf args) w)
    (h : ∀ (rec : LoopState → Obj) (W1 : World), Under P (n - 1 - 1) (w.heap.size + 1) w.heap.size ps a.tmps assign body rec → W1.heap.size = w.heap.size + 2 → Below w.heap.size w W1 →
      W1.heap[w.heap.size + 1]? = some (rec .ready) → W1.heap[w.heap.size]? = some (.deferred (some [])) →
      CallsIn Fence.wide (n - 1) P gf (#[.func (.yield (w.heap.size + 1)) #[] #[]] ++ lb) W1 fun e W2 => (∃ v, e = .returned v) ∧ W2.heap[w.heap.size + 1]? = some (rec .ready) ∧
        Q .normal { a with defers := { target := .collected w.heap.size, args := #[] } :: a.defers } (W2.putObj (w.heap.size + 1) (rec .exhausted))) :
    (Code.rangeFunc g ps assign body).wpIn Fence.wide n P Q a w := by
  refine wpIn_rangeFunc fun fn hfn => ?_
  obtain ⟨lp, hlp⟩ : ∃ lp : LoopState → Loop, lp = fun st => { state := st, pending := none, fn, tmps := a.tmps, params := ps, assign, body, defers := w.heap.size } := ⟨_, rfl⟩
  obtain ⟨W1, hW1⟩ : ∃ W1, (w.alloc (.deferred (some []))).alloc (.loop (lp .ready)) = W1 := ⟨_, rfl⟩
  have hL1 : W1.heap[w.heap.size + 1]? = some (.loop (lp .ready)) := by
    rw [← hW1]; have := World.alloc_heap_new (w.alloc (.deferred (some []))) (.loop (lp .ready)); rwa [World.size_alloc] at this
  have hD1 : W1.heap[w.heap.size]? = some (.deferred (some [])) := by
    rw [← hW1]; exact (Below.heap_alloc _ _ _ (by simp)).trans (World.alloc_heap_new w _)
  have hU : Under P (n - 1 - 1) (w.heap.size + 1) w.heap.size ps a.tmps assign body (fun s => .loop (lp s)) := by
    refine ⟨fun s => ⟨_, rfl⟩, fun args W K hl hs ha => ?_⟩
    have hy := run_yield (P := P) (args := args) hl (by rw [hlp]; exact hs)
    rw [hlp] at hy
    refine ⟨fn, _, assign, body, hy, roundIn_of_wpIn hfn (wpIn_mono ha ?_)⟩
    rintro e a1 W' hp
    cases e with
    | normal =>
      obtain ⟨hl2, hb⟩ := hp
      refine ⟨_, run_beginRound hl2 (by rw [hlp]), ?_⟩
      have hb2 : (W'.putObj (w.heap.size + 1) (.loop { lp .ready with state := .busy })) = W'.putObj (w.heap.size + 1) (.loop (lp .busy)) := by rw [hlp]
      rw [hb2]
      refine wpIn_mono hb ?_
      rintro e a3 W3 hq
      cases e with
      | normal =>
        obtain ⟨hl3, hk⟩ := hq
        refine ⟨_, _, run_endRound (P := P) none hl3, rfl, ?_⟩
        have : (Obj.loop { lp .busy with state := if (none : Option Code).isNone then .ready else .done, pending := none }) = .loop (lp .ready) := by rw [hlp]; rfl
        rw [this]
        exact hk
      | _ => exact hq.elim
    | _ => exact hp.elim
  refine ⟨w.heap.size + 1, [{ target := .collected w.heap.size, args := #[] }], W1, { target := .fn (.func gf) lb, args := #[.func (.yield (w.heap.size + 1)) #[] #[]] }, W1, gf,
    #[.func (.yield (w.heap.size + 1)) #[] #[]] ++ lb, W1, ?_, ?_, ?_, ?_, fun _ => h1, ?_⟩
  · rw [← hW1, hlp]; exact run_enterLoop_outer _ _ _ _ _
  · simp only [resolve, hg]
    simp [go_sem]
  · intro f' _; trivial
  · simp [invoke, go_sem, eg]
  · refine (h (fun s => .loop (lp s)) W1 hU (by rw [← hW1]; simp) (by rw [← hW1]; exact ((Below.refl _ _).alloc (Nat.le_refl _) _).alloc (by simp) _) hL1 hD1).mono ?_
    rintro e W2 ⟨⟨v, rfl⟩, hl, hq⟩
    have hend := run_endLoop (P := P) hl (by rw [hlp]; simp)
    rw [show (lp .ready).pending = none by rw [hlp]] at hend
    refine ⟨none, _, hend, ?_⟩
    rw [show (⟨.exhausted, none, (lp .ready).fn, (lp .ready).tmps, (lp .ready).params, (lp .ready).assign, (lp .ready).body, (lp .ready).defers⟩ : Loop) = lp .exhausted by rw [hlp]]
    exact hq
end Go.Proofs.Ytgoennbbpndiiaa
