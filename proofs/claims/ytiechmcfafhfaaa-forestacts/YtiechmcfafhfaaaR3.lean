/- The document's forest: Find and Kids; rows appended to rows. -/
import Derived.Test.YtiechmcfafhfaaaR2
import Derived.Test.YtiechmcfafhfaaaRm
namespace Go.Proofs.Ytiechmcfafhfaaa
open Go.RowKit Go.Maps Go.Shelf

/-- A row without its first ones. -/
theorem OR.from {w : World} {base size n cap g off k : Nat} {xs : List Value} (h : OR w base size (.slice (some ⟨g, off, none⟩) n cap) n xs) (hk : k ≤ n) :
    OR w base size (.slice (some ⟨g, (if cap - k = 0 then off else off + k * size), none⟩) (n - k) (cap - k)) (n - k) (xs.drop (k * size)) := by
  rcases h.form with ⟨e, _⟩ | ⟨g', off', cap', e, hb, hl, hn, hm, hr, hx⟩
  · cases e
  · obtain ⟨⟨rfl, rfl⟩, rfl⟩ : (g = g' ∧ off = off') ∧ cap = cap' := by simpa using e
    refine ⟨by rw [List.length_drop, h.len, Nat.sub_mul], .inr ⟨g, _, cap - k, rfl, hb, hl, by omega, by omega, fun j hj => ?_, fun j u hu => ?_⟩⟩
    · by_cases e0 : cap - k = 0
      · rw [e0] at hj; simp at hj
      · rw [if_neg e0, Nat.add_assoc]
        refine hr (k * size + j) ?_
        rw [Nat.sub_mul] at hj
        omega
    · rw [List.getElem?_drop] at hu
      by_cases e0 : cap - k = 0
      · have := (List.getElem?_eq_some_iff.1 hu).1
        have h1 := h.len
        have h2 : n = k := by omega
        subst h2
        omega
      · rw [if_neg e0, Nat.add_assoc]
        exact hx (k * size + j) u hu
theorem run_append_none {P : Program} (t e ty : TypeId) (sz : Nat) (ht : P.underlying t = some (.slice e)) (hs : ∀ w : World, (sizeOf e).run P w = .ok sz w) (a : Option Addr) (n cap : Nat) (h : n ≤ cap) (w : World) : (Builtin.append_ #[t, t] ty #[.slice a n cap, .slice none 0 0]).run P w = .ok (.slice a n cap) w := by
  cases a <;> simp [Builtin.append_, run_underlying ht, hs, go_sem, Builtin.lenOf, Builtin.firstCells, h, storeCells]
/-- A row is appended to one. -/
theorem OR.rows {P : Program} (t ty e : TypeId) (i : TypeInfo) (z : Value) (size bytes : Nat) (ht : P.underlying t = some (.slice e)) (hi : P.info? e = some i) (hz : i.zero = some z)
    (hsize : i.size = size) (hby : i.bytes = bytes) (hzs : z.cells.size = size) (hsz : 0 < size) (hs : ∀ w : World, (sizeOf e).run P w = .ok size w) {w : World} {base base2 n m cap2 : Nat} {a2 : Option Addr} {v : Value} {xs news : List Value} (h : OR w base size v n xs)
    (h2 : OR w base2 size (.slice a2 m cap2) m news) (h1 : ∀ u ∈ news, u.oneCell' = true) (h63 : n + m ≤ maxLen) (hbytes : (n + m) * bytes ≤ 140737488355328) (hbase : base ≤ w.heap.size) :
    ∃ a cap w', (Builtin.append_ #[t, t] ty #[v, .slice a2 m cap2]).run P w = .ok (.slice a (n + m) cap) w' ∧ OR w' base size (.slice a (n + m) cap) (n + m) (xs ++ news) ∧ w.grownBy w' v.ownBlock ∧
      ∀ k, (Value.slice a (n + m) cap).ownBlock = some k → v.ownBlock = some k ∨ w.heap.size ≤ k := by
  rcases h2.form with ⟨e1, hn0⟩ | ⟨g, off, cap', e1, _, _, _, _, _, hx⟩
  · obtain ⟨rfl, rfl, rfl⟩ : a2 = none ∧ m = 0 ∧ cap2 = 0 := by simpa using e1
    obtain ⟨a, cap, rfl, hc⟩ := h.slice
    obtain rfl : news = [] := List.eq_nil_of_length_eq_zero (by simpa using h2.len)
    refine ⟨a, cap, w, run_append_none t e ty size ht hs _ _ _ hc _, ?_, ⟨rfl, rfl, rfl, Nat.le_refl _, fun _ _ _ => rfl⟩, fun k e => .inl e⟩
    simpa using h
  · obtain ⟨rfl, _⟩ : a2 = some ⟨g, off, none⟩ ∧ cap2 = cap' := by simpa using e1
    obtain ⟨v', w', hr, ho, hg, hob⟩ := OR.append (P := P) t ty e i z size bytes ht hi hz hsize hby hzs hsz h ⟨g, off, none⟩ m cap2 news h2.len (fun j u hj => by rw [addr_add]; exact hx j u hj) h1 h63 hbytes hbase
    obtain ⟨a, cap, rfl, _⟩ := ho.slice
    refine ⟨a, cap, w', hr, ho, hg, fun k e => ?_⟩
    rcases hob with e1 | ⟨g, e1, e2⟩
    · exact .inl (e1.symm.trans e)
    · rw [e1] at e
      obtain rfl : g = k := by simpa using e
      exact .inr e2
theorem size3 (w : World) : (sizeOf 3).run Try.prog w = .ok 1 w := by kernel_rfl
theorem size53 (w : World) : (sizeOf 53).run Try.prog w = .ok 4 w := by kernel_rfl
theorem nums_one (l : List Int) : ∀ u ∈ nums l, u.oneCell' = true := fun u hu => by
  obtain ⟨z, _, rfl⟩ := List.mem_map.1 hu
  rfl
theorem rflat_one (l : List Nd) : ∀ u ∈ rflat l, u.oneCell' = true := by
  induction l with
  | nil => intro u hu; cases hu
  | cons x xs ih =>
    intro u hu
    rw [rflat_cons] at hu
    simp only [List.mem_cons] at hu
    rcases hu with rfl | rfl | rfl | rfl | hu
    · rfl
    · rfl
    · rfl
    · rfl
    · exact ih u hu
/-- Numbers are appended. -/
theorem nums_rows {w : World} {base base2 : Nat} {v : Value} {xs ys : List Int} {a2 : Option Addr} {cap2 : Nat} (h : OR w base 1 v xs.length (nums xs)) (h2 : OR w base2 1 (.slice a2 ys.length cap2) ys.length (nums ys)) (hn : xs.length + ys.length ≤ 1000000) (hb : base ≤ w.heap.size) :
    ∃ a cap w', (Builtin.append_ #[34, 34] 34 #[v, .slice a2 ys.length cap2]).run Try.prog w = .ok (.slice a (xs ++ ys).length cap) w' ∧ OR w' base 1 (.slice a (xs ++ ys).length cap) (xs ++ ys).length (nums (xs ++ ys)) ∧ w.grownBy w' v.ownBlock ∧
      ∀ k, (Value.slice a (xs ++ ys).length cap).ownBlock = some k → v.ownBlock = some k ∨ w.heap.size ≤ k := by
  obtain ⟨i0, hi, hz0, hz1, hz2⟩ := info_parts info3
  rw [List.length_append, nums_append]
  exact OR.rows (P := Try.prog) 34 34 3 i0 _ 1 8 Try.underlying34 hi hz0 hz1 hz2 rfl (by decide) size3 h h2 (nums_one _) (by unfold maxLen; omega) (by omega) hb
/-- Nodes are appended. -/
theorem nodes_rows {w : World} {base base2 : Nat} {v : Value} {xs ys : List Nd} {a2 : Option Addr} {cap2 : Nat} (h : OR w base 4 v xs.length (rflat xs)) (h2 : OR w base2 4 (.slice a2 ys.length cap2) ys.length (rflat ys)) (hn : xs.length + ys.length ≤ 1000000) (hb : base ≤ w.heap.size) :
    ∃ a cap w', (Builtin.append_ #[40, 40] 40 #[v, .slice a2 ys.length cap2]).run Try.prog w = .ok (.slice a (xs ++ ys).length cap) w' ∧ OR w' base 4 (.slice a (xs ++ ys).length cap) (xs ++ ys).length (rflat (xs ++ ys)) ∧ w.grownBy w' v.ownBlock ∧
      ∀ k, (Value.slice a (xs ++ ys).length cap).ownBlock = some k → v.ownBlock = some k ∨ w.heap.size ≤ k := by
  obtain ⟨i0, hi, hz0, hz1, hz2⟩ := info_parts info53
  rw [List.length_append, rflat_append]
  exact OR.rows (P := Try.prog) 40 40 53 i0 _ 4 32 Try.underlying40 hi hz0 hz1 hz2 rfl (by decide) size53 h h2 (rflat_one _) (by unfold maxLen; omega) (by omega) hb
/-- Nodes are appended, at a step of a region that draws. -/
theorem step_nodes (w : World) {ops : Array Oper} {o : Oper} {a : Act} {K : Act → World → Prop} {Q : Exit → Act → World → Prop} {E : Prop} (hgd : o.guard = none) (s x : Operand)
    (ho : o.op = .call { callee := .builtin .append, args := #[s, x], argTypes := #[40, 40] }) (hty : o.type = 40) {v : Value} {a2 : Option Addr} {cap2 : Nat} (hs : a.eval s = v) (xs ys : List Nd) {n m : Nat} (hx : a.eval x = .slice a2 m cap2) (hn : xs.length = n) (hm : ys.length = m)
    {base base2 : Nat} (h : OR w base 4 v n (rflat xs)) (h2 : OR w base2 4 (.slice a2 m cap2) m (rflat ys)) (hl : n + m ≤ 1000000) (hb : base ≤ w.heap.size)
    (k : ∀ a3 cap3 w', OR w' base 4 (.slice a3 (n + m) cap3) (n + m) (rflat (xs ++ ys)) → w.grownBy w' v.ownBlock → (∀ k, (Value.slice a3 (n + m) cap3).ownBlock = some k → v.ownBlock = some k ∨ w.heap.size ≤ k) → K (a.put o.dst (.slice a3 (n + m) cap3)) w') :
    if Region.wanted o (yielded ops a.tmps) = true then Oper.wp Try.prog o a w K Q else E := by
  subst hn hm
  obtain ⟨a3, cap3, w', hr, ho3, hg, hob⟩ := nodes_rows h h2 hl hb
  rw [List.length_append] at hr ho3 hob
  exact step_append_run w w' _ hgd s x 40 ho v _ hs hx (by rw [hty]; exact hr) (k a3 cap3 w' ho3 hg hob)
section
variable {w w' : World} {r : Nat} {v : Value} {last : Nat} {L : List Nd} {e : Nd}
/-- An owner's node; 0 without. -/
def findI (L : List Nd) (a b : Int) : Int := match L.find? (fun e => e.sp == a && e.sl == b) with
  | some e => (e.id : Int)
  | none => 0
theorem findI_hit {a b : Int} {k : Nat} (hk : L[k]? = some e) (h1 : (e.sp == a && e.sl == b) = true) (hn : ∀ (j : Nat) f, j < k → L[j]? = some f → (f.sp == a && f.sl == b) = false) : findI L a b = (e.id : Int) := by
  have : L.find? (fun e => e.sp == a && e.sl == b) = some e := by
    rw [List.find?_eq_some_iff_getElem]
    obtain ⟨hl, e1⟩ := List.getElem?_eq_some_iff.1 hk
    exact ⟨h1, k, hl, e1, fun j hj => by
      have := hn j L[j] hj (List.getElem?_eq_getElem (by omega))
      simp only [this, Bool.not_false]⟩
  unfold findI
  rw [this]
theorem findI_miss {a b : Int} (hn : ∀ (j : Nat) f, L[j]? = some f → (f.sp == a && f.sl == b) = false) : findI L a b = 0 := by
  have : L.find? (fun e => e.sp == a && e.sl == b) = none := by
    rw [List.find?_eq_none]
    intro f hf
    obtain ⟨j, hj⟩ := List.getElem?_of_mem hf
    rw [hn j f hj]
    decide
  unfold findI
  rw [this]
/-- The row is another one. -/
theorem Rf.put {w3 : World} {v' : Value} {R : List Nd} (h : Rf w r v last L) (hT : Turn (fun k => v.ownBlock = some k) w w3) (ho : OR w3 (r + 1) 4 v' R.length (rflat R)) (hob : ∀ k, v'.ownBlock = some k → v.ownBlock = some k ∨ w.heap.size ≤ k) :
    Rf (w3.setCell ⟨r, 0, none⟩ v') r v' last R ∧ Tr (ROwn r v) (ROwn r v') w (w3.setCell ⟨r, 0, none⟩ v') := by
  have hr : w3.heap[r]? = w.heap[r]? := hT.block r (lt_of h.hd) (fun e => by have := h.row.own r e; omega)
  have hd3 := hr.trans h.hd
  have hlt := lt_of h.hd
  refine ⟨⟨?_, ho.other (by simp) (fun g e => Below.heap_setCell _ _ _ _ (fun e1 => by subst e1; have := (ho.own _ e).1; omega))⟩, ⟨?_, fun k hk => ?_⟩⟩
  · rw [setCell_head hd3]; rfl
  · exact (hT.wide (fun _ => .inr)).but (But.setCell (But.refl r _) (.inl rfl) _) (.inl (.inl rfl))
  · rcases hk with rfl | hk
    · exact .inl (.inl rfl)
    · exact (hob k hk).imp .inr id
/-- The last number is another one. -/
theorem Rf.setLast (h : Rf w r v last L) (n : Nat) : Rf (w.setCell ⟨r, 1, none⟩ (.int .i64 (n : Int))) r v n L ∧ Tr (ROwn r v) (ROwn r v) w (w.setCell ⟨r, 1, none⟩ (.int .i64 (n : Int))) := by
  refine ⟨⟨?_, h.row.other (by simp) (fun g e => Below.heap_setCell _ _ _ _ (fun e1 => by subst e1; have := (h.row.own _ e).1; omega))⟩, ⟨?_, fun _ hk => .inl hk⟩⟩
  · rw [setCell_head h.hd]; rfl
  · exact Turn.of_but (But.setCell (But.refl r _) (.inl rfl) _) (.inl (.inl rfl))
end
end Go.Proofs.Ytiechmcfafhfaaa
