/- A row of elements that begins wherever in its block: what is read, set, cut off at the front, and appended. No program is named here. -/
import Derived.ArgAppend
import Derived.Maps.AppendAt
import Derived.Test.YtiechmcfafhfaaaGr
namespace Go.Proofs.Ytiechmcfafhfaaa
open Go.RowKit Go.Maps Go.Shelf

theorem ownsRow_base {w : World} {base base' : Nat} {e : TypeId} {size : Nat} {v : Value} {n : Nat} {xs : List Value} (h : w.ownsRow base e size v n xs) (hb : base' ≤ base) : w.ownsRow base' e size v n xs :=
  ⟨h.1, h.2.imp id fun ⟨g, cap, cur, h1, h2, h3⟩ => ⟨g, cap, cur, h1, Nat.le_trans hb h2, h3⟩⟩
/-- A row of n elements of so many cells, that begins somewhere in a block at or beyond base; its room behind it may be written. -/
structure OR (w : World) (base size : Nat) (v : Value) (n : Nat) (xs : List Value) : Prop where
  len : xs.length = n * size
  form : (v = .slice none 0 0 ∧ n = 0) ∨ ∃ g off cap, v = .slice (some ⟨g, off, none⟩) n cap ∧ base ≤ g ∧ g < w.heap.size ∧ n ≤ cap ∧ cap ≤ maxLen ∧
    (∀ j, j < cap * size → (w.cell? ⟨g, off + j, none⟩).isSome = true ∧ w.frozen? ⟨g, off + j, none⟩ = false) ∧ ∀ (j : Nat) u, xs[j]? = some u → w.cell? ⟨g, off + j, none⟩ = some u

section
variable {w w' : World} {base size n : Nat} {v : Value} {xs : List Value}
theorem OR.nil (w : World) (base size : Nat) : OR w base size (.slice none 0 0) 0 [] := ⟨by simp, .inl ⟨rfl, rfl⟩⟩
theorem OR.own (h : OR w base size v n xs) : ∀ g, v.ownBlock = some g → base ≤ g ∧ g < w.heap.size := by
  rcases h.form with ⟨rfl, _⟩ | ⟨g, off, cap, rfl, hb, hl, _⟩
  · intro g e; cases e
  · intro r hr
    obtain rfl : g = r := by simpa [Value.ownBlock] using hr
    exact ⟨hb, hl⟩
theorem OR.other (h : OR w base size v n xs) (hs : w.heap.size ≤ w'.heap.size) (ho : ∀ g, v.ownBlock = some g → w'.heap[g]? = w.heap[g]?) : OR w' base size v n xs := by
  refine ⟨h.len, ?_⟩
  rcases h.form with h2 | ⟨g, off, cap, rfl, hb, hl, hn, hm, hr, hx⟩
  · exact .inl h2
  · have e := ho g rfl
    refine .inr ⟨g, off, cap, rfl, hb, Nat.lt_of_lt_of_le hl hs, hn, hm, fun j hj => ⟨?_, ?_⟩, fun j u hu => ?_⟩
    · rw [World.cell?_of_block (a := ⟨g, off + j, none⟩) e]; exact (hr j hj).1
    · rw [World.frozen?_of_block (a := ⟨g, off + j, none⟩) e]; exact (hr j hj).2
    · rw [World.cell?_of_block (a := ⟨g, off + j, none⟩) e]; exact hx j u hu
theorem OR.below {B : Nat} (h : OR w base size v n xs) (hb : Below B w w') (hB : w.heap.size ≤ B) : OR w' base size v n xs :=
  h.other hb.size (fun g e => hb.block g (by have := (h.own g e).2; omega))
theorem OR.drewN (h : OR w base size v n xs) (k : Nat) : OR (w.drewN k) base size v n xs := ⟨h.len, h.form⟩
theorem OR.drew (h : OR w base size v n xs) : OR w.drew base size v n xs := ⟨h.len, h.form⟩
theorem OR.alloc (h : OR w base size v n xs) (o : Obj) : OR (w.alloc o) base size v n xs := h.below ((Below.refl _ _).alloc (Nat.le_refl _) o) (Nat.le_refl _)
theorem OR.of_owns {e : TypeId} (h : w.ownsRow base e size v n xs) : OR w base size v n xs := by
  refine ⟨h.1, ?_⟩
  rcases h.2 with h2 | ⟨g, cap, cur, rfl, hb, hg, hn, hm, hs, ht⟩
  · exact .inl h2
  · refine .inr ⟨g, 0, cap, rfl, hb, lt_of hg, hn, hm, fun j hj => ⟨?_, ?_⟩, fun j u hu => ?_⟩
    · rw [Nat.zero_add, cell_of_row _ _ _ _ _ _ hg, Array.getElem?_eq_getElem (by omega)]; rfl
    · rw [Nat.zero_add]; exact frozen_of_row w g j _ _ hg
    · rw [Nat.zero_add, cell_of_row _ _ _ _ _ _ hg]
      rw [← ht] at hu
      obtain ⟨hl, _⟩ := List.getElem?_eq_some_iff.1 hu
      rw [List.getElem?_take_of_lt (by simp at hl; omega), Array.getElem?_toList] at hu
      exact hu
/-- Cell j of a row. -/
theorem OR.at {a : Option Addr} {m cap j : Nat} {u : Value} (h : OR w base size (.slice a m cap) n xs) (hu : xs[j]? = some u) : ∃ g off, a = some ⟨g, off, none⟩ ∧ base ≤ g ∧ w.cell? ⟨g, off + j, none⟩ = some u := by
  rcases h.form with ⟨e, rfl⟩ | ⟨g, off, cap', e, hb, _, _, _, _, hx⟩
  · have := h.len
    obtain rfl : xs = [] := List.eq_nil_of_length_eq_zero (by simpa using this)
    cases hu
  · obtain ⟨rfl, _, _⟩ : a = some ⟨g, off, none⟩ ∧ m = n ∧ cap = cap' := by simpa using e
    exact ⟨g, off, rfl, hb, hx j u hu⟩
theorem OR.slice (h : OR w base size v n xs) : ∃ a cap, v = .slice a n cap ∧ n ≤ cap := by
  rcases h.form with ⟨rfl, rfl⟩ | ⟨g, off, cap, rfl, _, _, hn, _⟩
  · exact ⟨_, _, rfl, Nat.le_refl _⟩
  · exact ⟨_, _, rfl, hn⟩
/-- A cell of the row is set. -/
theorem OR.set {g off cap : Nat} {u : Value} (h : OR w base size (.slice (some ⟨g, off, none⟩) n cap) n xs) (j : Nat) (hj : j < n * size) :
    OR (w.setCell ⟨g, off + j, none⟩ u) base size (.slice (some ⟨g, off, none⟩) n cap) n (xs.set j u) ∧ w.frozen? ⟨g, off + j, none⟩ = false := by
  rcases h.form with ⟨e, _⟩ | ⟨g', off', cap', e, hb, hl, hn, hm, hr, hx⟩
  · cases e
  · obtain ⟨⟨rfl, rfl⟩, rfl⟩ : (g = g' ∧ off = off') ∧ cap = cap' := by simpa using e
    have hjc : j < cap * size := Nat.lt_of_lt_of_le hj (Nat.mul_le_mul_right _ hn)
    refine ⟨⟨by rw [List.length_set]; exact h.len, .inr ⟨g, off, cap, rfl, hb, by simpa using hl, hn, hm, fun i hi => ⟨?_, ?_⟩, fun i y hy => ?_⟩⟩, (hr j hjc).2⟩
    · by_cases e2 : i = j
      · subst e2; rw [World.cell?_setCell_same' _ _ _ (hr i hi).1]; rfl
      · rw [World.cell?_setCell_other _ _ _ _ (by intro e3; injection e3 with _ e4 _; omega)]; exact (hr i hi).1
    · rw [World.frozen?_setCell]; exact (hr i hi).2
    · by_cases e2 : i = j
      · subst e2
        rw [World.cell?_setCell_same' _ _ _ (hr i hjc).1]
        rw [List.getElem?_set_self (by rw [h.len]; exact hj)] at hy
        exact hy
      · rw [World.cell?_setCell_other _ _ _ _ (by intro e3; injection e3 with _ e4 _; omega)]
        rw [List.getElem?_set_ne (fun e => e2 e.symm)] at hy
        exact hx i y hy
/-- The first elements are cut off. -/
theorem OR.tail {g off cap : Nat} (h : OR w base size (.slice (some ⟨g, off, none⟩) (n + 1) (cap + 1)) (n + 1) xs) :
    OR w base size (.slice (some ⟨g, (if cap = 0 then off else off + size), none⟩) n cap) n (xs.drop size) := by
  rcases h.form with ⟨e, _⟩ | ⟨g', off', cap', e, hb, hl, hn, hm, hr, hx⟩
  · cases e
  · obtain ⟨⟨rfl, rfl⟩, rfl⟩ : (g = g' ∧ off = off') ∧ cap + 1 = cap' := by simpa using e
    refine ⟨by rw [List.length_drop, h.len, Nat.add_mul, Nat.one_mul, Nat.add_sub_cancel], .inr ⟨g, _, cap, rfl, hb, hl, by omega, by omega, fun j hj => ?_, fun j u hu => ?_⟩⟩
    · by_cases e0 : cap = 0
      · subst e0; simp at hj
      · rw [if_neg e0, Nat.add_assoc]
        exact hr (size + j) (by rw [Nat.add_mul]; omega)
    · rw [List.getElem?_drop] at hu
      by_cases e0 : cap = 0
      · subst e0
        obtain rfl : n = 0 := by omega
        have := (List.getElem?_eq_some_iff.1 hu).1
        have := h.len
        omega
      · rw [if_neg e0, Nat.add_assoc]
        exact hx (size + j) u hu
/-- Elements are appended. -/
theorem OR.append {P : Program} (t ty e : TypeId) (i : TypeInfo) (z : Value) (size bytes : Nat) (ht : P.underlying t = some (.slice e)) (hi : P.info? e = some i) (hz : i.zero = some z)
    (hsize : i.size = size) (hby : i.bytes = bytes) (hzs : z.cells.size = size) (hsz : 0 < size) (h : OR w base size v n xs)
    (a : Addr) (m c : Nat) (news : List Value) (hl : news.length = m * size) (hnews : ∀ (j : Nat) u, news[j]? = some u → w.cell? (a.add j) = some u) (h1 : ∀ u ∈ news, u.oneCell' = true)
    (h63 : n + m ≤ maxLen) (hbytes : (n + m) * bytes ≤ 140737488355328) (hbase : base ≤ w.heap.size) :
    ∃ v' w', (Builtin.append_ #[t, t] ty #[v, .slice (some a) m c]).run P w = .ok v' w' ∧ OR w' base size v' (n + m) (xs ++ news) ∧ w.grownBy w' v.ownBlock ∧
      (v'.ownBlock = v.ownBlock ∨ ∃ g, v'.ownBlock = some g ∧ w.heap.size ≤ g) := by
  rcases h.form with ⟨rfl, rfl⟩ | ⟨g, off, cap, rfl, hb, hgl, hn, hmx, hr, hx⟩
  · obtain rfl : xs = [] := List.eq_nil_of_length_eq_zero (by simpa using h.len)
    obtain ⟨v', w', hrun, ho, hg, _, hob⟩ := run_append_own_at (P := P) w base t ty e i z size bytes ht hi hz hsize hby hzs hsz (.slice none 0 0) 0 [] (World.ownsRow_nil _ _ _ _) a m c news hl hnews h1 h63 hbytes hbase
    exact ⟨v', w', hrun, OR.of_owns ho, hg, hob.imp id (fun e => ⟨_, e, Nat.le_refl _⟩)⟩
  · by_cases hroom : n + m ≤ cap
    · subst hsize
      have hmul : n * i.size + news.length ≤ cap * i.size := by rw [hl, ← Nat.add_mul]; exact Nat.mul_le_mul_right _ hroom
      have hrun := run_append_room_cells (P := P) w t ty e i ht hi g off n cap a m c news hl hnews h1 hroom
        (fun j hj => by rw [Nat.add_assoc]; exact (hr _ (by omega)).1) (fun j hj => by rw [Nat.add_assoc]; exact (hr _ (by omega)).2)
      have hsome : ∀ j, j < news.length → (w.cell? ⟨g, off + n * i.size + j, none⟩).isSome = true := fun j hj => by rw [Nat.add_assoc]; exact (hr _ (by omega)).1
      have hk := World.keptBut_setCells g (may := fun p => ∃ j, p = .cell g j) news (off + n * i.size) w (fun j _ => ⟨_, rfl⟩)
      have htp : ∀ (vs : List Value) (o : Nat) (W : World), (W.setCells g o vs).tape = W.tape ∧ (W.setCells g o vs).heap.size = W.heap.size := by
        intro vs
        induction vs with
        | nil => intro o W; exact ⟨rfl, rfl⟩
        | cons x xs ih => intro o W; have := ih (o + 1) (W.setCell ⟨g, o, none⟩ x); exact ⟨this.1, this.2.trans (by simp)⟩
      have hblk : ∀ (vs : List Value) (o : Nat) (W : World) (k : Nat), k ≠ g → (W.setCells g o vs).heap[k]? = W.heap[k]? := by
        intro vs
        induction vs with
        | nil => intro o W k _; rfl
        | cons x xs ih => intro o W k hk; exact (ih (o + 1) (W.setCell ⟨g, o, none⟩ x) k hk).trans (Below.heap_setCell _ _ _ _ hk)
      refine ⟨_, _, hrun, ⟨by rw [List.length_append, h.len, hl, Nat.add_mul], .inr ⟨g, off, cap, rfl, hb, by rw [(htp _ _ _).2]; exact hgl, hroom, hmx, fun j hj => ⟨?_, ?_⟩, fun j u hu => ?_⟩⟩, ⟨hk.1, (htp _ _ _).1, hk.2.1, by rw [(htp _ _ _).2]; exact Nat.le_refl _, fun k _ hne => hblk _ _ _ k (fun e => hne (by rw [e]; rfl))⟩, .inl rfl⟩
      · by_cases hin : n * i.size ≤ j ∧ j < n * i.size + news.length
        · have := World.cell?_setCells_in g news (off + n * i.size) w hsome (j - n * i.size) (by omega)
          rw [show off + n * i.size + (j - n * i.size) = off + j by omega] at this
          rw [this]; rfl
        · rw [World.cell?_setCells_out g news _ w _ (fun _ _ => by show off + j < off + n * i.size ∨ off + n * i.size + news.length ≤ off + j; omega)]
          exact (hr j hj).1
      · rw [World.frozen?_setCells]; exact (hr j hj).2
      · by_cases hj : j < xs.length
        · rw [List.getElem?_append_left hj] at hu
          rw [World.cell?_setCells_out g news _ w _ (fun _ _ => by show off + j < off + n * i.size ∨ off + n * i.size + news.length ≤ off + j; have := h.len; omega)]
          exact hx j u hu
        · rw [List.getElem?_append_right (by omega)] at hu
          have hjl := (List.getElem?_eq_some_iff.1 hu).1
          have := World.cell?_setCells_in g news (off + n * i.size) w hsome (j - xs.length) hjl
          rw [show off + n * i.size + (j - xs.length) = off + j by have := h.len; omega] at this
          rw [this, ← List.getElem?_eq_getElem hjl]; exact hu
    · obtain ⟨v', w', hrun, ho, hg⟩ := run_append_arg_grows (P := P) w t ty e i z size bytes ht hi hz hsize hby hzs hsz ⟨g, off, none⟩ n cap xs h.len (fun j u hu => by rw [Addr.add_lit]; exact hx j u hu) a m c news hl hnews (by omega) h63 hbytes
      refine ⟨v', w', hrun, OR.of_owns (ownsRow_base ho hbase), ⟨hg.os, hg.tape, hg.output, hg.size, fun k hk _ => hg.block k hk (by simp)⟩, ?_⟩
      rcases ho.2 with ⟨_, h0⟩ | ⟨g', cap', cur, rfl, hb', _⟩
      · omega
      · exact .inr ⟨g', rfl, hb'⟩
end
end Go.Proofs.Ytiechmcfafhfaaa
