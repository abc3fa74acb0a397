/- Nodes in memory, each linked to its parent, its children and its siblings; what becomes of the links when one leaves, or comes. No program is named here. -/
import Derived.Test.YtiechmcfafhfaaaA
import Derived.Test.YtiechmcfafhfaaaM
namespace Go.Proofs.Ytiechmcfafhfaaa
open Go.RowKit

/-- A pointer to a node, or nil. -/
def optr (nb : Nat → Nat) : Option Nat → Value
  | none => .pointer none
  | some i => ptr (nb i)
/-- A node in memory, with these children, among these siblings. -/
structure NdAt (w : World) (nb : Nat → Nat) (e : Nd) (ks sibs : List Nat) : Prop where
  blk : ∃ cs, w.heap[nb e.id]? = some (.cells cs 66)
  c0 : w.cell? ⟨nb e.id, 0, none⟩ = some (.int .i64 (e.id : Int))
  c1 : w.cell? ⟨nb e.id, 1, none⟩ = some (.int .i64 e.sp)
  c2 : w.cell? ⟨nb e.id, 2, none⟩ = some (.int .i64 e.sl)
  c3 : w.cell? ⟨nb e.id, 3, none⟩ = some (optr nb (if e.par = 0 then none else some e.par))
  c4 : w.cell? ⟨nb e.id, 4, none⟩ = some (optr nb ks.head?)
  c5 : w.cell? ⟨nb e.id, 5, none⟩ = some (optr nb ks.getLast?)
  c6 : ∃ v, w.cell? ⟨nb e.id, 6, none⟩ = some v ∧ ∀ s t, sibs = s ++ e.id :: t → v = optr nb s.getLast?
  c7 : ∃ v, w.cell? ⟨nb e.id, 7, none⟩ = some v ∧ (e.par = 0 → v = .pointer none) ∧ ∀ s t, sibs = s ++ e.id :: t → v = optr nb t.head?
/-- All nodes. -/
def Links (w : World) (nb : Nat → Nat) (L : List Nd) : Prop := ∀ e ∈ L, NdAt w nb e (kids L e.id) (kids L e.par)
/-- Each node has a block of its own. -/
def Own1 (nb : Nat → Nat) (L : List Nd) : Prop := ∀ a ∈ L, ∀ b ∈ L, nb a.id = nb b.id → a.id = b.id

theorem cell_set {w : World} {a i b j : Nat} {v : Value} (h : (w.cell? ⟨a, i, none⟩).isSome = true) : (w.setCell ⟨a, i, none⟩ v).cell? ⟨b, j, none⟩ = if b = a ∧ j = i then some v else w.cell? ⟨b, j, none⟩ := by
  by_cases e : b = a ∧ j = i
  · obtain ⟨rfl, rfl⟩ := e
    rw [if_pos ⟨rfl, rfl⟩, World.cell?_setCell_same' _ _ _ h]
  · rw [if_neg e]
    exact World.cell?_setCell_other _ _ _ _ (by intro e2; injection e2 with e3 e4 _; exact e ⟨e3.symm, e4.symm⟩)
theorem some_set {w : World} {a i b j : Nat} {v : Value} (h : (w.cell? ⟨a, i, none⟩).isSome = true) (k : (w.cell? ⟨b, j, none⟩).isSome = true) : ((w.setCell ⟨a, i, none⟩ v).cell? ⟨b, j, none⟩).isSome = true := by
  rw [cell_set h]; split <;> simp_all
theorem blk_set {w : World} {a i b : Nat} {t : TypeId} {v : Value} (h : ∃ cs, w.heap[b]? = some (.cells cs t)) : ∃ cs, (w.setCell ⟨a, i, none⟩ v).heap[b]? = some (.cells cs t) := by
  obtain ⟨cs, h⟩ := h
  by_cases e : b = a
  · subst e; exact ⟨_, setCell_head h v⟩
  · exact ⟨cs, by rw [Below.heap_setCell _ _ _ _ e]; exact h⟩

section
variable {w w' : World} {nb : Nat → Nat} {e : Nd} {ks sibs : List Nat} {L : List Nd} {last : Nat}
theorem NdAt.other (h : NdAt w nb e ks sibs) (ho : w'.heap[nb e.id]? = w.heap[nb e.id]?) : NdAt w' nb e ks sibs := by
  have hc : ∀ j, w'.cell? ⟨nb e.id, j, none⟩ = w.cell? ⟨nb e.id, j, none⟩ := fun j => World.cell?_of_block (a := ⟨nb e.id, j, none⟩) ho
  exact ⟨by rw [ho]; exact h.blk, by rw [hc]; exact h.c0, by rw [hc]; exact h.c1, by rw [hc]; exact h.c2, by rw [hc]; exact h.c3, by rw [hc]; exact h.c4, by rw [hc]; exact h.c5, by rw [hc]; exact h.c6, by rw [hc]; exact h.c7⟩
theorem NdAt.nb_eq {nb' : Nat → Nat} (h : NdAt w nb e ks sibs) (h0 : nb' e.id = nb e.id) (hp : e.par ≠ 0 → nb' e.par = nb e.par) (hk : ∀ k ∈ ks, nb' k = nb k) (hs : ∀ k ∈ sibs, nb' k = nb k) : NdAt w nb' e ks sibs := by
  have ho : ∀ o : Option Nat, (∀ x, o = some x → nb' x = nb x) → optr nb' o = optr nb o := by
    intro o h
    cases o with
    | none => rfl
    | some x => show ptr (nb' x) = ptr (nb x); rw [h x rfl]
  refine ⟨by rw [h0]; exact h.blk, by rw [h0]; exact h.c0, by rw [h0]; exact h.c1, by rw [h0]; exact h.c2, ?_, ?_, ?_, ?_, ?_⟩
  · rw [h0, ho _ (fun x hx => ?_)]
    · exact h.c3
    · split at hx
      · cases hx
      · rename_i hn; obtain rfl : e.par = x := by simpa using hx
        exact hp hn
  · rw [h0, ho _ (fun x hx => hk x (List.mem_of_mem_head? hx))]; exact h.c4
  · rw [h0, ho _ (fun x hx => hk x (List.mem_of_getLast? hx))]; exact h.c5
  · obtain ⟨v, h1, h2⟩ := h.c6
    refine ⟨v, by rw [h0]; exact h1, fun s t hst => ?_⟩
    rw [ho _ (fun x hx => hs x (by rw [hst]; exact List.mem_append_left _ (List.mem_of_getLast? hx)))]
    exact h2 s t hst
  · obtain ⟨v, h1, h3, h2⟩ := h.c7
    refine ⟨v, by rw [h0]; exact h1, h3, fun s t hst => ?_⟩
    rw [ho _ (fun x hx => hs x (by rw [hst]; exact List.mem_append_right _ (List.mem_cons_of_mem _ (List.mem_of_mem_head? hx))))]
    exact h2 s t hst
theorem Links.other (h : Links w nb L) (ho : ∀ e ∈ L, w'.heap[nb e.id]? = w.heap[nb e.id]?) : Links w' nb L := fun e he => (h e he).other (ho e he)
theorem Links.lt (h : Links w nb L) (he : e ∈ L) : nb e.id < w.heap.size := by
  obtain ⟨cs, hb⟩ := (h e he).blk
  exact lt_of hb
theorem NdAt.frozen (h : NdAt w nb e ks sibs) (j : Nat) : w.frozen? ⟨nb e.id, j, none⟩ = false := by
  obtain ⟨cs, hb⟩ := h.blk
  exact frozen_of_row w _ j _ _ hb

theorem nodup_mid {s t : List Nat} {n : Nat} (h : (s ++ n :: t).Nodup) : n ∉ s ∧ n ∉ t ∧ ∀ x ∈ s, x ∉ t := by
  rw [List.nodup_append] at h
  obtain ⟨h1, h2, h3⟩ := h
  obtain ⟨h4, h5⟩ := List.nodup_cons.1 h2
  exact ⟨fun hs => h3 n hs n (by simp) rfl, h4, fun x hx ht => h3 x hx x (by simp [ht]) rfl⟩
theorem filter_mid {s t : List Nat} {n : Nat} (h : (s ++ n :: t).Nodup) : (s ++ n :: t).filter (fun k => k != n) = s ++ t := by
  obtain ⟨h1, h2, _⟩ := nodup_mid h
  rw [List.filter_append, List.filter_cons_of_neg (by simp)]
  rw [List.filter_eq_self.2 (fun a ha => by simp; rintro rfl; exact h1 ha), List.filter_eq_self.2 (fun a ha => by simp; rintro rfl; exact h2 ha)]
theorem filter_none {l : List Nat} {n : Nat} (h : n ∉ l) : l.filter (fun k => k != n) = l := List.filter_eq_self.2 (fun a ha => by simp; rintro rfl; exact h ha)

/-- Who stood ahead, when one went. -/
theorem ahead_gone {f : Option Nat → Value} {s t : List Nat} {n x : Nat} {v : Value} (hn : (s ++ n :: t).Nodup) (h : ∀ s1 t1, s ++ n :: t = s1 ++ x :: t1 → v = f s1.getLast?) :
    ∀ s1 t1, s ++ t = s1 ++ x :: t1 → (if t.head? = some x then f s.getLast? else v) = f s1.getLast? := by
  obtain ⟨n1, n2, n3⟩ := nodup_mid hn
  have nt : t.Nodup := by
    rw [List.nodup_append] at hn
    exact (List.nodup_cons.1 hn.2.1).2
  have first : ∀ a t1, t = a ++ x :: t1 → (if t.head? = some x then f s.getLast? else v) = f (s ++ a).getLast? := by
    intro a t1 e
    subst e
    cases a with
    | nil => simp
    | cons y r =>
      rw [if_neg]
      · rw [h (s ++ n :: y :: r) t1 (by simp)]
        congr 1
        rw [List.getLast?_append, List.getLast?_append]
        simp [List.getLast?_cons]
      · simp
        rintro rfl
        simp at nt
  intro s1 t1 e
  rcases List.append_eq_append_iff.1 e with ⟨a, rfl, e2⟩ | ⟨c, e1, e2⟩
  · exact first a t1 e2
  · cases c with
    | nil =>
      have := first [] t1 (by simpa using e2.symm)
      rw [this, e1]
      simp
    | cons y r =>
      obtain ⟨rfl, rfl⟩ : x = y ∧ t1 = r ++ t := by simpa using e2
      subst e1
      rw [if_neg]
      · exact h s1 (r ++ n :: t) (by simp)
      · intro ht
        exact n3 x (by simp) (List.mem_of_mem_head? ht)
/-- Who stood behind, when one went. -/
theorem behind_gone {f : Option Nat → Value} {s t : List Nat} {n x : Nat} {v : Value} (hn : (s ++ n :: t).Nodup) (h : ∀ s1 t1, s ++ n :: t = s1 ++ x :: t1 → v = f t1.head?) :
    ∀ s1 t1, s ++ t = s1 ++ x :: t1 → (if s.getLast? = some x then f t.head? else v) = f t1.head? := by
  obtain ⟨n1, n2, n3⟩ := nodup_mid hn
  have ns : s.Nodup := by
    rw [List.nodup_append] at hn
    exact hn.1
  have second : ∀ c r, s = c ++ x :: r → (if s.getLast? = some x then f t.head? else v) = f (r ++ t).head? := by
    intro c r e
    subst e
    cases r with
    | nil => simp
    | cons y r =>
      rw [if_neg]
      · rw [h c (y :: r ++ n :: t) (by simp)]
        rfl
      · intro hx
        rw [List.getLast?_append] at hx
        have : (x :: y :: r).getLast? = some x := by simpa using hx
        have hm : x ∈ y :: r := by
          rw [List.getLast?_cons_cons] at this
          exact List.mem_of_getLast? this
        rw [List.nodup_append] at ns
        exact (List.nodup_cons.1 ns.2.1).1 hm
  intro s1 t1 e
  rcases List.append_eq_append_iff.1 e with ⟨a, rfl, e2⟩ | ⟨c, e1, e2⟩
  · rw [if_neg]
    · exact h (s ++ n :: a) t1 (by rw [e2]; simp)
    · intro hs
      exact n3 x (List.mem_of_getLast? hs) (by rw [e2]; simp)
  · cases c with
    | nil =>
      have e3 : t = x :: t1 := by simpa using e2.symm
      rw [if_neg]
      · exact h (s ++ [n]) t1 (by rw [e3]; simp)
      · intro hs
        exact n3 x (List.mem_of_getLast? hs) (by rw [e3]; simp)
    | cons y r =>
      obtain ⟨rfl, rfl⟩ : x = y ∧ t1 = r ++ t := by simpa using e2
      exact second s1 r e1

/-- A node leaves its parent. -/
def leaveW (w : World) (n : Nat) (a i b j : Nat) (va vb : Value) : World :=
  ((((w.setCell ⟨a, i, none⟩ vb).setCell ⟨b, j, none⟩ va).setCell ⟨n, 3, none⟩ (.pointer none)).setCell ⟨n, 6, none⟩ (.pointer none)).setCell ⟨n, 7, none⟩ (.pointer none)
/-- Where the pointer to the node stands that its elder sibling has, or its parent. -/
def eldA (nb : Nat → Nat) (q : Nat) : Option Nat → Nat × Nat
  | none => (nb q, 4)
  | some a => (nb a, 7)
def yngA (nb : Nat → Nat) (q : Nat) : Option Nat → Nat × Nat
  | none => (nb q, 5)
  | some b => (nb b, 6)
theorem leave_cell {n a i b j : Nat} {va vb : Value} (h1 : (w.cell? ⟨a, i, none⟩).isSome = true) (h2 : (w.cell? ⟨b, j, none⟩).isSome = true) (h3 : (w.cell? ⟨n, 3, none⟩).isSome = true) (h6 : (w.cell? ⟨n, 6, none⟩).isSome = true) (h7 : (w.cell? ⟨n, 7, none⟩).isSome = true) (x k : Nat) :
    (leaveW w n a i b j va vb).cell? ⟨x, k, none⟩ = if x = n ∧ k = 7 then some (.pointer none) else if x = n ∧ k = 6 then some (.pointer none) else if x = n ∧ k = 3 then some (.pointer none) else if x = b ∧ k = j then some va else if x = a ∧ k = i then some vb else w.cell? ⟨x, k, none⟩ := by
  unfold leaveW
  rw [cell_set (some_set (some_set (some_set (some_set h1 ‹_›) (some_set h1 ‹_›)) (some_set (some_set h1 ‹_›) (some_set h1 ‹_›))) (some_set (some_set (some_set h1 ‹_›) (some_set h1 ‹_›)) (some_set (some_set h1 ‹_›) (some_set h1 ‹_›)))),
    cell_set (some_set (some_set (some_set h1 ‹_›) (some_set h1 ‹_›)) (some_set (some_set h1 ‹_›) (some_set h1 ‹_›))), cell_set (some_set (some_set h1 ‹_›) (some_set h1 ‹_›)), cell_set (some_set h1 ‹_›), cell_set h1]
end
end Go.Proofs.Ytiechmcfafhfaaa
