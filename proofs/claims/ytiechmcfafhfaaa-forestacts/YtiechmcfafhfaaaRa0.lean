/- The document's forest: the contract of Add. -/
import Derived.Test.YtiechmcfafhfaaaRc
namespace Go.Proofs.Ytiechmcfafhfaaa
open Go.RowKit Go.Maps Go.Shelf

section
variable {w w' : World} {r : Nat} {v : Value} {last last2 : Nat} {L : List Nd} {e : Nd}
theorem atI_there (hids : L.Pairwise (fun a b => a.id ≠ b.id)) {x : Int} (h : There L x) : 0 ≤ atI L x := by
  obtain ⟨f, hf, rfl⟩ := h
  obtain ⟨k, hk, _, hno⟩ := at_there hids hf
  rw [atI_hit hk rfl hno]; omega
theorem atI_not {x : Int} (h : ¬ There L x) : atI L x = -1 := atI_miss (fun _ f hf hx => h ⟨f, List.mem_of_getElem? hf, hx⟩)
theorem findI_not {a b : Int} (h : ¬ ∃ f ∈ L, f.sp = a ∧ f.sl = b) : findI L a b = 0 := findI_miss (fun j f hf => by
  cases hd : (f.sp == a && f.sl == b) with
  | false => rfl
  | true => exact absurd ⟨f, List.mem_of_getElem? hf, by simpa using hd⟩ h)
theorem findI_yes (hw : Wf L last) {a b : Int} (h : ∃ f ∈ L, f.sp = a ∧ f.sl = b) : findI L a b ≠ 0 := by
  unfold findI
  cases hd : L.find? (fun e => e.sp == a && e.sl == b) with
  | none =>
    obtain ⟨f, hf, h1, h2⟩ := h
    exact absurd (List.find?_eq_none.1 hd f hf) (by simp [h1, h2])
  | some e =>
    have := (hw.lo e (List.mem_of_find?_eq_some hd)).1
    show (e.id : Int) ≠ 0
    omega
/-- A row with one node, made at once. -/
theorem or_node (w : World) (e : Nd) : OR (w.alloc (.cells #[.int .i64 (e.id : Int), .int .i64 (e.par : Int), .int .i64 e.sp, .int .i64 e.sl] 53)) w.heap.size 4 (.slice (some ⟨w.heap.size, 0, none⟩) 1 1) 1 (rflat [e]) :=
  OR.of_owns (e := 53) ⟨rfl, .inr ⟨w.heap.size, 1, _, rfl, Nat.le_refl _, heap_alloc_new _ _, Nat.le_refl _, by unfold maxLen; omega, rfl, rfl⟩⟩
/-- What Add leaves. -/
def RAdd (w : World) (r : Nat) (v : Value) (last : Nat) (L : List Nd) (x a b : Int) (en : Ending) (w' : World) : Prop :=
  en = .returned (.tuple #[.int .i64 (addI L last x a b), .int .i64 (addE L x a b)]) ∧ ∃ v', Rf w' r v' (addN L last x a b) (addL L last x a b) ∧ Tr (ROwn r v) (ROwn r v') w w'
theorem addE_6 {x : Int} (h0 : x ≠ 0) (h : ¬ There L x) (a b : Int) : addE L x a b = 6 := by unfold addE; rw [if_pos ⟨h0, by rw [find_none h]; rfl⟩]
theorem add_par (hw : Wf L last) {x : Int} (h : x = 0 ∨ There L x) : ¬ (x ≠ 0 ∧ (L.find? (fun e => (e.id : Int) == x)).isNone) := by
  rintro ⟨h0, hn⟩
  rcases h with h | ⟨f, hf, e1⟩
  · exact h0 h
  · rw [← e1, find_some hw hf] at hn
    cases hn
theorem addE_7 (hw : Wf L last) {x a b : Int} (h : x = 0 ∨ There L x) (h2 : ∃ f ∈ L, f.sp = a ∧ f.sl = b) : addE L x a b = 7 := by
  obtain ⟨f, hf, rfl, rfl⟩ := h2
  unfold addE
  rw [if_neg (add_par hw h), if_pos]
  rw [List.find?_isSome]
  exact ⟨f, hf, by simp⟩
theorem addE_0 (hw : Wf L last) {x a b : Int} (h : x = 0 ∨ There L x) (h2 : ¬ ∃ f ∈ L, f.sp = a ∧ f.sl = b) : addE L x a b = 0 := by
  unfold addE
  rw [if_neg (add_par hw h), if_neg]
  rw [List.find?_isSome]
  rintro ⟨f, hf, e2⟩
  simp at e2
  exact h2 ⟨f, hf, e2⟩
theorem radd_err {w3 : World} (h : Rf w3 r v last L) (hb : Below w.heap.size w w3) {x a b n : Int} (h0 : n ≠ 0) (hE : addE L x a b = n) : RAdd w r v last L x a b (.returned (.tuple #[.int .i64 0, .int .i64 n])) w3 := by
  unfold RAdd addI addN addL
  rw [hE, if_neg h0, if_neg h0, if_neg h0]
  exact ⟨rfl, v, h, tr_refl _ hb⟩

/-- A row made before another one was appended to. -/
theorem keep_node {X w2 : World} {base n g gE : Nat} {xs : List Value} (hn : OR X base 4 (.slice (some ⟨g, 0, none⟩) n n) n xs) (hs : X.heap.size ≤ w2.heap.size) (hk : ∀ k, k < X.heap.size → some k ≠ (Value.slice (some ⟨gE, 0, none⟩) 0 0).ownBlock → w2.heap[k]? = X.heap[k]?) (hne : g ≠ gE) : OR w2 base 4 (.slice (some ⟨g, 0, none⟩) n n) n xs :=
  hn.other hs (fun k e => by
    obtain rfl : g = k := by simpa [Value.ownBlock] using e
    exact hk g (hn.own g rfl).2 (by simpa [Value.ownBlock] using hne))
/-- Nodes are appended, at a step of a region that draws: to a row that was made behind a world; what else stays is told. -/
theorem step_nodesK {w0 : World} (w : World) {ops : Array Oper} {o : Oper} {a : Act} {K : Act → World → Prop} {Q : Exit → Act → World → Prop} {E : Prop} (hgd : o.guard = none) (s x : Operand)
    (ho : o.op = .call { callee := .builtin .append, args := #[s, x], argTypes := #[40, 40] }) (hty : o.type = 40) {v : Value} {a2 : Option Addr} {cap2 : Nat} (hs : a.eval s = v) (xs ys : List Nd) {n m : Nat} (hx : a.eval x = .slice a2 m cap2) (hn : xs.length = n) (hm : ys.length = m)
    {base base2 : Nat} (h : OR w base 4 v n (rflat xs)) (h2 : OR w base2 4 (.slice a2 m cap2) m (rflat ys)) (hl : n + m ≤ 1000000) (hB : Below base w0 w) (hb : base ≤ w.heap.size)
    (k : ∀ a3 cap3 w', OR w' base 4 (.slice a3 (n + m) cap3) (n + m) (rflat (xs ++ ys)) → Below base w0 w' → w.heap.size ≤ w'.heap.size → (∀ g, g < w.heap.size → some g ≠ v.ownBlock → w'.heap[g]? = w.heap[g]?) → K (a.put o.dst (.slice a3 (n + m) cap3)) w') :
    if Region.wanted o (yielded ops a.tmps) = true then Oper.wp Try.prog o a w K Q else E :=
  step_nodes w hgd s x ho hty hs xs ys hx hn hm h h2 hl hb (fun a3 cap3 w' ho3 hg _ => k a3 cap3 w' ho3 (hB.grown hg hb (fun k e => (h.own k e).1)) hg.size hg.block)
end
end Go.Proofs.Ytiechmcfafhfaaa
