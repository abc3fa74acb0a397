/- The iterator that takes off what is due. -/
import Derived.Test.YtgoennbbpndiiaaC
import Derived.Test.YtgoennbbpndiiaaD
namespace Go.Proofs.Ytgoennbbpndiiaa
open Go.RowKit Go.Maps Go.Shelf
attribute [local go_sem] Oper.semAt_some

def dueOf (l : List (Int × Int)) : List Int := (l.takeWhile fun t => t.2 == 0).map (·.1)
def restOf (l : List (Int × Int)) : List (Int × Int) := l.dropWhile fun t => t.2 == 0
theorem due_nil : dueOf [] = [] ∧ restOf [] = [] := ⟨rfl, rfl⟩
theorem due_yes (x : Int) (l : List (Int × Int)) : dueOf ((x, 0) :: l) = x :: dueOf l ∧ restOf ((x, 0) :: l) = restOf l := by
  unfold dueOf restOf
  rw [List.takeWhile_cons_of_pos (by rfl), List.dropWhile_cons_of_pos (by rfl)]
  exact ⟨rfl, rfl⟩
theorem due_no {t : Int × Int} (h : t.2 ≠ 0) (l : List (Int × Int)) : dueOf (t :: l) = [] ∧ restOf (t :: l) = t :: l := by
  unfold dueOf restOf
  rw [List.takeWhile_cons_of_neg (by simpa using h), List.dropWhile_cons_of_neg (by simpa using h)]
  exact ⟨rfl, rfl⟩

section
variable {w : World} {b : Nat} {v : Value} {p : Int} {l : List (Int × Int)}
/-- The first thing is cut off. -/
theorem Qu.cut {g off cap : Nat} {t : Int × Int} (h : Qu w b (.slice (some ⟨g, off, none⟩) (l.length + 1) cap) p (t :: l)) :
    ∃ cap' a', cap = cap' + 1 ∧ a' = (if cap' = 0 then some ⟨g, off, none⟩ else some ⟨g, off + 2, none⟩) ∧ Left w b (.slice (some ⟨g, off, none⟩) (l.length + 1) cap) p l (.slice a' l.length cap') (w.setCell ⟨b, 1, none⟩ (.slice a' l.length cap')) := by
  obtain ⟨_, cap0, e, hle⟩ := h.row.slice
  obtain ⟨_, rfl⟩ : some (⟨g, off, none⟩ : Addr) = _ ∧ cap = cap0 := by simpa using e
  obtain ⟨cap', rfl⟩ : ∃ c, cap = c + 1 := ⟨cap - 1, by simp at hle; omega⟩
  have hr : OR w (b + 1) 2 (.slice (some ⟨g, (if cap' = 0 then off else off + 2), none⟩) l.length cap') l.length ((flat (t :: l)).drop 2) := OR.tail h.row
  rw [flat_drop] at hr
  have ea : (some (⟨g, (if cap' = 0 then off else off + 2), none⟩ : Addr)) = (if cap' = 0 then some ⟨g, off, none⟩ else some ⟨g, off + 2, none⟩) := by split <;> rfl
  refine ⟨cap', some ⟨g, (if cap' = 0 then off else off + 2), none⟩, rfl, ea, ⟨?_, ?_⟩, (Turn.refl _ _).but (But.setCell (But.refl b _) (.inl rfl) _) (.inl (.inl rfl)), fun k e => .inl e⟩
  · rw [setCell_head h.hd]; rfl
  · exact hr.other (by simp) (fun k e => Below.heap_setCell _ _ _ _ (by show k ≠ b; have := (hr.own k e).1; omega))
/-- How many things the queue at b has. -/
def lenAt (w : World) (b : Nat) : Nat := match w.cell? ⟨b, 1, none⟩ with
  | some (.slice _ n _) => n
  | _ => 0
theorem Qu.lenAt (h : Qu w b v p l) : lenAt w b = l.length := by
  obtain ⟨a, cap, rfl, _⟩ := h.row.slice
  unfold Ytgoennbbpndiiaa.lenAt
  rw [h.c1]

set_option maxRecDepth 100000 in
set_option maxHeartbeats 1000000 in
theorem due1_in (n k B b : Nat) (p : Int) (J : List Int → List (Int × Int) → World → Prop)
    (hJ : ∀ pre rest W, J pre rest W → rest.length ≤ 100000 ∧ W.cell? ⟨B, 0, none⟩ = some (.pointer (some ⟨b, 0, none⟩)) ∧ ∃ v, Qu W b v p rest)
    (hY : ∀ pre x rest W v v2, J pre ((x, 0) :: rest) W → Qu W b v p ((x, 0) :: rest) → Left W b v p rest v2 (W.drew.setCell ⟨b, 1, none⟩ v2) →
      YieldAt Fence.wide (n - 1) Try.prog k #[.int .i64 x] (W.drew.setCell ⟨b, 1, none⟩ v2) fun e W' => e = .returned (.bool true) ∧ J (pre ++ [x]) rest W')
    (l : List (Int × Int)) (W : World) (h0 : J [] l W) :
    CallsIn Fence.wide n Try.prog 20 #[.func (.yield k) #[] #[], .pointer (some ⟨B, 0, none⟩)] W fun e W' => (∃ v, e = .returned v) ∧ J (dueOf l) (restOf l) W' := by
  refine callsIn_of_wp Try.func20 rfl trivial ?_ rfl
  simp only [Try.ntmps20, List.size_toArray, List.length_cons, List.length_nil, Nat.reduceAdd, Nat.reduceSub, Array.replicate_succ, Array.replicate_zero, List.push_toArray, List.append_toArray, List.nil_append, List.cons_append]
  gi_wp2_with fail
  gi_loopw [3] (fun _ wr => ∃ (pre : List Int) (rest : List (Int × Int)), Hid (dueOf l = pre ++ dueOf rest ∧ restOf l = restOf rest) ∧ J pre rest wr) (fun _ wr => lenAt wr b)
  case atStart => exact ⟨[], l, hid ⟨rfl, rfl⟩, h0⟩
  case round =>
    clear h0
    obtain ⟨pre, rest, hE, hJr⟩ := hrel
    obtain ⟨hlen, cB, v, hq⟩ := hJ _ _ _ hJr
    have HQ := hid hq
    obtain ⟨a, cap, rfl, _⟩ := hq.row.slice
    have c1 := hq.c1
    cases rest with
    | nil =>
      clear hq
      rw [List.length_nil] at c1 HQ
      gi_wp2_with (refine ⟨trivial, fun h => (by cases h), ?_⟩; gi_at_call 18; refine (callsIn_wide.2 (all_any HQ.out)).mono ?_; rintro e w' ⟨rfl, rfl⟩)
      go_end0
      refine ⟨⟨_, rfl⟩, ?_⟩
      rw [hE.out.1, hE.out.2, due_nil.1, due_nil.2, List.append_nil]
      exact hJr
    | cons t rest =>
      obtain ⟨x, t⟩ := t
      obtain ⟨g, off, cap2, ev, e0, e1⟩ := hq.at (k := 0) (t := (x, t)) rfl
      obtain ⟨rfl, _⟩ : a = some ⟨g, off, none⟩ ∧ cap = cap2 := by simpa using ev
      rw [Nat.zero_mul, Nat.add_zero] at e0 e1
      dsimp only at e0 e1
      obtain ⟨m, hm⟩ : ∃ m, m = rest.length := ⟨_, rfl⟩
      rw [List.length_cons, ← hm] at c1 HQ hlen hq
      have hm0 : (0 : Int) < (m : Int) + 1 := by omega
      by_cases ht : t = 0
      · subst ht
        obtain ⟨cap', a2, rfl, ha2, hcut⟩ := Qu.cut (w := wr.drew) (t := (x, 0)) (l := rest) (g := g) (off := off) (cap := cap) (by rw [← hm]; exact hq.drewN 1)
        have hT := (Turn.refl (Own b (.slice (some ⟨g, off, none⟩) (rest.length + 1) (cap' + 1))) wr).drew.trans hcut.turn
        have hcut2 : Left wr b (.slice (some ⟨g, off, none⟩) (rest.length + 1) (cap' + 1)) p rest _ _ := ⟨hcut.qu, hT, hcut.own⟩
        obtain ⟨fn, tmps, assign, body, hy, hR⟩ := hY pre x rest wr _ _ hJr (by rw [hm] at hq; exact hq) hcut2
        have HR := hid hR
        have HLn := hid hq.lenAt
        have hdue := due_yes x rest
        have HE2 : Hid (dueOf l = (pre ++ [x]) ++ dueOf rest ∧ restOf l = restOf rest) := hid ⟨by rw [hE.out.1, hdue.1, List.append_assoc]; rfl, by rw [hE.out.2, hdue.2]⟩
        have hbl : b < wr.heap.size := lt_of hq.hd
        have cBd : wr.drew.cell? ⟨B, 0, none⟩ = some (.pointer (some ⟨b, 0, none⟩)) := cB
        have c1d : wr.drew.cell? ⟨b, 1, none⟩ = some (.slice (some ⟨g, off, none⟩) (m + 1) (cap' + 1)) := hq.c1
        have f1d : wr.drew.frozen? ⟨b, 1, none⟩ = false := frozen_of_row _ _ _ _ _ hq.hd
        rw [← hm] at hy HR
        have hy2 : (Instr.yield k #[.int .i64 x]).run Try.prog (wr.setCell ⟨b, 1, none⟩ (.slice a2 m cap')).drew = .ok (.round k fn tmps assign body) (wr.setCell ⟨b, 1, none⟩ (.slice a2 m cap')).drew := hy
        have HR2 : Hid (RoundIn Fence.wide (n - 1) Try.prog k fn tmps assign body (wr.setCell ⟨b, 1, none⟩ (.slice a2 m cap')).drew fun e W' => e = .returned (.bool true) ∧ J (pre ++ [x]) rest W') := HR
        clear hcut hcut2 hT hR hdue hE hJr hq hm hy HR
        generalize rest.length = m' at *
        gi_wp2_with (refine ⟨trivial, fun h => (by cases h), ?_⟩; gi_at_call 18; refine (callsIn_wide.2 (all_any HQ.out)).mono ?_; rintro e w' ⟨rfl, rfl⟩)
        refine (wpIn_wide (n := n)).2 ?_
        go_region
        all_goals
          rw [← ha2]
          clear ha2
          gi_wp2_with fail
          refine ⟨fun h => (by cases h), HR2.out.mono ?_⟩
          rintro e W3 ⟨rfl, hJ3⟩
          have hm3 : lenAt W3 b < lenAt w' b := by
            obtain ⟨_, _, v3, hq3⟩ := hJ _ _ _ hJ3
            rw [hq3.lenAt, HLn.out]; exact Nat.lt_succ_self _
          gi_wp2_with fail
          exact ⟨⟨pre ++ [x], rest, HE2, hJ3⟩, hm3⟩
      · have hd : (t == 0) = false := by rw [beq_eq_false_iff_ne]; exact ht
        gi_wp2_with (refine ⟨trivial, fun h => (by cases h), ?_⟩; gi_at_call 18; refine (callsIn_wide.2 (all_any HQ.out)).mono ?_; rintro e w' ⟨rfl, rfl⟩)
        go_end0
        refine ⟨⟨_, rfl⟩, ?_⟩
        have hn := due_no (t := (x, t)) ht rest
        rw [hE.out.1, hE.out.2, hn.1, hn.2, List.append_nil]
        exact hJr
end
end Go.Proofs.Ytgoennbbpndiiaa
