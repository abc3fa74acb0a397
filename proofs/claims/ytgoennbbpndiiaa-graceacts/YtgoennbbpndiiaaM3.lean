/- Things whose ticks never fall along the row: what is due stands at its front. No program is named here. -/
import Derived.Test.YtgoennbbpndiiaaM2
namespace Go.Proofs.Ytgoennbbpndiiaa

structure Good (p : Int) (l : List (Int × Int)) : Prop where
  bound : ∀ t ∈ l, 1 ≤ t.2 ∧ t.2 ≤ p
  rise : l.Pairwise fun a b => a.2 ≤ b.2
def outs (l : List (Int × Int)) (k : Nat) : List Int := ((l.take k).filter fun t => t.2 == 1).map (·.1)
def keeps (l : List (Int × Int)) (k : Nat) : List Int := ((l.take k).filter fun t => !(t.2 == 1)).map (·.1)
def kts (l : List (Int × Int)) (k : Nat) : List Int := ((l.take k).filter fun t => !(t.2 == 1)).map fun t => t.2 - 1
section
variable {p : Int} {l : List (Int × Int)}
theorem take_next {k : Nat} (h : k < l.length) : l.take (k + 1) = l.take k ++ [l[k]] := by rw [List.take_add_one, List.getElem?_eq_getElem h]; rfl
theorem outs_yes {k : Nat} (h : k < l.length) (he : l[k].2 = 1) : outs l (k + 1) = outs l k ++ [l[k].1] ∧ keeps l (k + 1) = keeps l k ∧ kts l (k + 1) = kts l k := by
  unfold outs keeps kts
  rw [take_next h, List.filter_append, List.filter_append, List.map_append, List.map_append, List.map_append]
  have h1 : List.filter (fun t : Int × Int => t.2 == 1) [l[k]] = [l[k]] := by simp [List.filter, he]
  have h2 : List.filter (fun t : Int × Int => !(t.2 == 1)) [l[k]] = [] := by simp [List.filter, he]
  rw [h1, h2]
  exact ⟨rfl, by simp, by simp⟩
theorem outs_no {k : Nat} (h : k < l.length) (he : l[k].2 ≠ 1) : outs l (k + 1) = outs l k ∧ keeps l (k + 1) = keeps l k ++ [l[k].1] ∧ kts l (k + 1) = kts l k ++ [l[k].2 - 1] := by
  unfold outs keeps kts
  rw [take_next h, List.filter_append, List.filter_append, List.map_append, List.map_append, List.map_append]
  have hb : (l[k].2 == 1) = false := by rw [beq_eq_false_iff_ne]; exact he
  have h1 : List.filter (fun t : Int × Int => t.2 == 1) [l[k]] = [] := by simp [List.filter, hb]
  have h2 : List.filter (fun t : Int × Int => !(t.2 == 1)) [l[k]] = [l[k]] := by simp [List.filter, hb]
  rw [h1, h2]
  exact ⟨by simp, rfl, rfl⟩
theorem outs_len (k : Nat) : (outs l k).length ≤ k ∧ (keeps l k).length ≤ k ∧ (kts l k).length ≤ k ∧ (kts l k).length = (keeps l k).length := by
  have h : ∀ f : Int × Int → Bool, ((l.take k).filter f).length ≤ k := fun f => Nat.le_trans (List.length_filter_le _ _) (by rw [List.length_take]; omega)
  unfold outs keeps kts
  rw [List.length_map, List.length_map, List.length_map]
  exact ⟨h _, h _, h _, rfl⟩
theorem Good.nil : Good p [] := ⟨fun t h => (by cases h), List.Pairwise.nil⟩
theorem Good.add (h : Good p l) (hp : 1 ≤ p) (xs : List Int) : Good p (l ++ xs.map fun x => (x, p)) := by
  refine ⟨fun t ht => ?_, ?_⟩
  · rcases List.mem_append.1 ht with h1 | h1
    · exact h.bound t h1
    · obtain ⟨x, _, rfl⟩ := List.mem_map.1 h1
      exact ⟨hp, Int.le_refl _⟩
  · rw [List.pairwise_append]
    refine ⟨h.rise, ?_, fun a ha b hb => ?_⟩
    · rw [List.pairwise_map]
      induction xs with
      | nil => exact List.Pairwise.nil
      | cons x xs ih => exact List.pairwise_cons.2 ⟨fun _ _ => Int.le_refl _, ih⟩
    · obtain ⟨x, _, rfl⟩ := List.mem_map.1 hb
      exact (h.bound a ha).2
theorem Good.tail {t : Int × Int} (h : Good p (t :: l)) : Good p l := ⟨fun x hx => h.bound x (List.mem_cons_of_mem _ hx), (List.pairwise_cons.1 h.rise).2⟩
theorem Good.tick (h : Good p l) : ((l.filter fun t => t.2 == 1).map (·.1)) = dueOf (tickA l) ∧ ((l.filter fun t => !(t.2 == 1)).map fun t => (t.1, t.2 - 1)) = restOf (tickA l) := by
  induction l with
  | nil => exact ⟨rfl, rfl⟩
  | cons t l ih =>
    obtain ⟨x, e⟩ := t
    have hc : tickA ((x, e) :: l) = (x, e - 1) :: tickA l := rfl
    rw [hc]
    by_cases he : e = 1
    · subst he
      have := ih h.tail
      rw [show (1 : Int) - 1 = 0 from rfl, (due_yes _ _).1, (due_yes _ _).2, ← this.1, ← this.2]
      exact ⟨rfl, rfl⟩
    · have h1 := h.bound (x, e) (List.mem_cons_self ..)
      have hall : ∀ t ∈ (x, e) :: l, (t.2 == 1) = false := fun t ht => by
        rw [beq_eq_false_iff_ne]
        rcases List.mem_cons.1 ht with rfl | h2
        · exact he
        · have := (List.pairwise_cons.1 h.rise).1 t h2
          simp only at this h1; omega
      have hn := due_no (t := (x, e - 1)) (by simp only; omega) (tickA l)
      rw [hn.1, hn.2, List.filter_eq_nil_iff.2 (fun t ht => by rw [hall t ht]; decide), List.filter_eq_self.2 (fun t ht => by rw [hall t ht]; rfl)]
      exact ⟨rfl, rfl⟩
theorem Good.rest (h : Good p l) : Good p (restOf (tickA l)) := by
  rw [← h.tick.2]
  refine ⟨fun t ht => ?_, ?_⟩
  · obtain ⟨u, hu, rfl⟩ := List.mem_map.1 ht
    obtain ⟨h1, h2⟩ := List.mem_filter.1 hu
    have h3 := h.bound u h1
    have h4 : u.2 ≠ 1 := by simpa using h2
    simp only; omega
  · rw [List.pairwise_map]
    exact (h.rise.filter _).imp (fun h => by simp only; omega)
theorem tick_all (h : Good p l) : outs l l.length = dueOf (tickA l) ∧ keeps l l.length = (restOf (tickA l)).map (·.1) ∧ kts l l.length = (restOf (tickA l)).map (·.2) := by
  unfold outs keeps kts
  rw [List.take_length, ← h.tick.2, List.map_map, List.map_map]
  exact ⟨h.tick.1, rfl, rfl⟩
theorem rest_len (l : List (Int × Int)) : (restOf (tickA l)).length ≤ l.length := by
  have h := (List.dropWhile_sublist (fun t : Int × Int => t.2 == 0) (l := tickA l)).length_le
  unfold restOf
  have : (tickA l).length = l.length := by simp [tickA]
  omega
theorem due_len (l : List (Int × Int)) : (dueOf (tickA l)).length ≤ l.length := by
  have h := (List.takeWhile_sublist (fun t : Int × Int => t.2 == 0) (l := tickA l)).length_le
  unfold dueOf
  rw [List.length_map]
  have : (tickA l).length = l.length := by simp [tickA]
  omega
end
end Go.Proofs.Ytgoennbbpndiiaa
