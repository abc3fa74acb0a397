/- What HandleUnlike keeps: the handles of live objects, with these. -/
import Derived.Test.YtoahfeckadaomaaQ2
namespace Go.Proofs.Ytoahfeckadaomaa

theorem erase_split {α : Type} {L : List α} {i : Nat} {x : α} (h : L[i]? = some x) : L = L.take i ++ x :: L.drop (i + 1) := by
  obtain ⟨hi, rfl⟩ := List.getElem?_eq_some_iff.1 h
  rw [← List.drop_eq_getElem_cons hi, List.take_append_drop]
theorem erase_mem {α : Type} {L : List (Nat × α)} {i : Nat} {x y : Nat × α} (h : L[i]? = some x) (hn : (L.map Prod.fst).Nodup) (hy : y ∈ L.eraseIdx i) : y ∈ L ∧ y.1 ≠ x.1 := by
  rw [List.eraseIdx_eq_take_drop_succ] at hy
  have e := erase_split h
  rw [e, List.map_append, List.map_cons, List.nodup_append, List.nodup_cons] at hn
  obtain ⟨_, ⟨h2, _⟩, h3⟩ := hn
  rw [List.mem_append] at hy
  rcases hy with hy | hy
  · refine ⟨List.mem_of_mem_take hy, fun e2 => ?_⟩
    exact h3 y.1 (List.mem_map_of_mem hy) x.1 (by simp) e2
  · refine ⟨List.mem_of_mem_drop hy, fun e2 => h2 ?_⟩
    rw [← e2]
    exact List.mem_map_of_mem hy
theorem erase_nodup {α : Type} {L : List (Nat × α)} (i : Nat) (hn : (L.map Prod.fst).Nodup) : ((L.eraseIdx i).map Prod.fst).Nodup :=
  hn.sublist (List.Sublist.map _ (List.eraseIdx_sublist L i))

/-- The handles of all live objects, each with its object; at most k times was anything freed. -/
structure Lv (T : Nat → Pl) (L : List (Nat × Ob)) (k : Nat) : Prop where
  wf : Wf T
  st : ∀ y, y < 256 → (T y).st ≤ 2
  ag : ∀ y, y < 256 → (T y).ag ≤ k
  el : ∀ x, x ∈ L → (T (x.1 % 256)).st = 1 ∧ (T (x.1 % 256)).ag = x.1 / 256 ∧ (T (x.1 % 256)).o = x.2
  nd : (L.map Prod.fst).Nodup
  num : cn T 1 256 = L.length
section
variable {T : Nat → Pl} {L : List (Nat × Ob)} {k : Nat}
theorem Lv.new : Lv T0 [] 0 := ⟨Wf.new, fun _ _ => Nat.zero_le _, fun _ _ => Nat.zero_le _, by simp, by simp, by decide +kernel⟩
theorem Lv.lt (h : Lv T L k) {x : Nat × Ob} (hx : x ∈ L) : x.1 < 268435456 := by
  have h1 := h.el x hx
  have h2 := (h.wf (x.1 % 256) (Nat.mod_lt _ (by decide))).2
  omega
theorem Lv.few (h : Lv T L k) : L.length ≤ 256 := by rw [← h.num]; exact cn_le _ _ _
theorem Lv.mono (h : Lv T L k) {k' : Nat} (hk : k ≤ k') : Lv T L k' := ⟨h.wf, h.st, fun y hy => Nat.le_trans (h.ag y hy) hk, h.el, h.nd, h.num⟩
theorem Lv.fresh (h : Lv T L k) {n : Nat} (hn : n < 256) (h0 : (T n).st = 0) {x : Nat × Ob} (hx : x ∈ L) : x.1 ≠ hOf n (T n).ag := fun e => by
  have h1 := (h.el x hx).1
  rw [e, hOf_mod hn, h0] at h1
  cases h1
theorem Lv.put (h : Lv T L k) {n : Nat} (hn : First T n) (hn2 : n < 256) (o : Ob) : Lv (putT T n o) (L ++ [(hOf n (T n).ag, o)]) k := by
  have h0 := hn.2.1 hn2
  refine ⟨h.wf.put hn2 o, fun y hy => ?_, fun y hy => ?_, fun x hx => ?_, ?_, ?_⟩
  · by_cases e : y = n
    · subst e; unfold putT; rw [upd_same]; exact (show 1 ≤ 2 by decide)
    · unfold putT; rw [upd_other _ _ _ e]; exact h.st y hy
  · by_cases e : y = n
    · subst e; unfold putT; rw [upd_same]; exact h.ag y hy
    · unfold putT; rw [upd_other _ _ _ e]; exact h.ag y hy
  · rcases List.mem_append.1 hx with hx | hx
    · have h1 := h.el x hx
      have e : x.1 % 256 ≠ n := fun e => by rw [e, h0] at h1; cases h1.1
      unfold putT; rw [upd_other _ _ _ e]; exact h1
    · obtain rfl : x = (hOf n (T n).ag, o) := by simpa using hx
      show ((putT T n o) (hOf n (T n).ag % 256)).st = 1 ∧ _ ∧ _
      rw [hOf_mod hn2]
      unfold putT
      rw [upd_same]
      exact ⟨rfl, (hOf_div hn2).symm, rfl⟩
  · rw [List.map_append, List.nodup_append]
    refine ⟨h.nd, by simp, fun a ha b hb e => ?_⟩
    obtain ⟨x, hx, rfl⟩ := List.mem_map.1 ha
    obtain rfl : b = hOf n (T n).ag := by simpa using hb
    exact h.fresh hn2 h0 hx e
  · rw [List.length_append, ← h.num]
    have h1 : (T n).st ≠ 1 := by omega
    exact cn_upd_in h1 rfl hn2
theorem Lv.is (h : Lv T L k) {x : Nat × Ob} (hx : x ∈ L) : isB T x.1 1 = true := by
  obtain ⟨h1, h2, _⟩ := h.el x hx
  unfold isB
  rw [h1, h2]
  simp
theorem Lv.apart (h : Lv T L k) {x y : Nat × Ob} (hx : x ∈ L) (hy : y ∈ L) (hn : y.1 ≠ x.1) : y.1 % 256 ≠ x.1 % 256 := fun e => by
  have h1 := (h.el x hx).2.1
  have h2 := (h.el y hy).2.1
  rw [e, h1] at h2
  omega
theorem Lv.kill (h : Lv T L k) {i : Nat} {x : Nat × Ob} (hx : L[i]? = some x) : Lv (killT T (x.1 % 256)) (L.eraseIdx i) k := by
  have hm := List.mem_of_getElem? hx
  have hi := (List.getElem?_eq_some_iff.1 hx).1
  have hp : x.1 % 256 < 256 := Nat.mod_lt _ (by decide)
  obtain ⟨h1, h2, h3⟩ := h.el x hm
  refine ⟨h.wf.kill hp, fun y hy => ?_, fun y hy => ?_, fun y hy => ?_, erase_nodup i h.nd, ?_⟩
  · by_cases e : y = x.1 % 256
    · rw [e]; unfold killT; rw [upd_same]; exact Nat.le_refl _
    · unfold killT; rw [upd_other _ _ _ e]; exact h.st y hy
  · by_cases e : y = x.1 % 256
    · rw [e]; unfold killT; rw [upd_same]; exact h.ag _ hp
    · unfold killT; rw [upd_other _ _ _ e]; exact h.ag y hy
  · obtain ⟨hy1, hy2⟩ := erase_mem hx h.nd hy
    unfold killT
    rw [upd_other _ _ _ (h.apart hm hy1 hy2)]
    exact h.el y hy1
  · have hc := cn_upd_out (T := T) (s := 1) (i := x.1 % 256) (n := 256) (p := ⟨(T (x.1 % 256)).o, 2, (T (x.1 % 256)).ag⟩) h1 (show 2 ≠ 1 by decide) hp
    rw [h.num] at hc
    have hl := List.length_eraseIdx_of_lt hi
    unfold killT
    omega
theorem Lv.free (h : Lv T L k) (hk : k < 1048575) {i : Nat} {x : Nat × Ob} (hx : L[i]? = some x) : Lv (freeT (killT T (x.1 % 256)) (x.1 % 256)) (L.eraseIdx i) (k + 1) := by
  have hm := List.mem_of_getElem? hx
  have hp : x.1 % 256 < 256 := Nat.mod_lt _ (by decide)
  have hK := h.kill hx
  have hag := hK.ag (x.1 % 256) hp
  have hst : (killT T (x.1 % 256) (x.1 % 256)).st = 2 := by unfold killT; rw [upd_same]
  have hf : freeT (killT T (x.1 % 256)) (x.1 % 256) = upd (killT T (x.1 % 256)) (x.1 % 256) ⟨noOb, 0, (killT T (x.1 % 256) (x.1 % 256)).ag + 1⟩ := by
    unfold freeT
    rw [if_neg (by omega)]
  refine ⟨hK.wf.free hp, fun y hy => ?_, fun y hy => ?_, fun y hy => ?_, hK.nd, ?_⟩
  · rw [hf]
    by_cases e : y = x.1 % 256
    · rw [e, upd_same]; exact Nat.zero_le _
    · rw [upd_other _ _ _ e]; exact hK.st y hy
  · rw [hf]
    by_cases e : y = x.1 % 256
    · rw [e, upd_same]; exact Nat.succ_le_succ hag
    · rw [upd_other _ _ _ e]; exact Nat.le_succ_of_le (hK.ag y hy)
  · obtain ⟨hy1, hy2⟩ := erase_mem hx h.nd hy
    rw [hf, upd_other _ _ _ (h.apart hm hy1 hy2)]
    exact hK.el y hy
  · rw [hf, cn_upd_not (by rw [hst]; decide) (show 0 ≠ 1 by decide)]
    exact hK.num
theorem Lv.sum (h : Lv T L k) : cn T 0 256 + L.length + cn T 2 256 = 256 := by rw [← h.num]; exact cn_sum h.st
end
end Go.Proofs.Ytoahfeckadaomaa
