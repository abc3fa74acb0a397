/- A map from keys to blocks, in memory: what it answers when it is asked, gets an entry, loses one, and is counted. No program is named here. -/
import Derived.MapKept
import Derived.Maps.Keyed
import Derived.WideKeyArgs2
import Derived.MapViews
import Derived.Carry
import Derived.Test.YtiechmcfafhfaaaO
namespace Go.Proofs.Ytiechmcfafhfaaa
open Go.RowKit Go.Maps Go.MapKept

/-- Block b's pointer. -/
abbrev ptr (b : Nat) : Value := .pointer (some ⟨b, 0, none⟩)
/-- One block is another object now. -/
def putB (w : World) (m : Nat) (o : Obj) : World := { w with heap := w.heap.setIfInBounds m o }
theorem putB_same {w : World} {m : Nat} (o : Obj) (h : m < w.heap.size) : (putB w m o).heap[m]? = some o := by unfold putB; simp [h]
theorem putB_other (w : World) {m k : Nat} (o : Obj) (h : k ≠ m) : (putB w m o).heap[k]? = w.heap[k]? := by unfold putB; simp [Ne.symm h]
theorem putB_size (w : World) (m : Nat) (o : Obj) : (putB w m o).heap.size = w.heap.size := by unfold putB; simp
theorem putB_but (w : World) (m : Nat) (o : Obj) : But m w (putB w m o) := ⟨rfl, rfl, rfl, by rw [putB_size]; exact Nat.le_refl _, fun k _ hk => putB_other w o hk⟩
/-- Block m is a map of n entries, that has block b at key v just where F says so. -/
structure Mp (P : Program) (kt : TypeId) (w : World) (m : Nat) (F : Value → Nat → Prop) (n : Nat) : Prop where
  has : ∃ es clock, w.heap[m]? = some (.map es clock) ∧ (∀ e ∈ es.toList, ∃ l, keyOf P kt e.key = some l) ∧ (∀ e ∈ es.toList, ∃ b, e.val = ptr b ∧ F e.key b) ∧
    (∀ v b, F v b → ∃ e ∈ es.toList, e.key = v ∧ e.val = ptr b) ∧ es.toList.Pairwise (fun x y => x.key ≠ y.key) ∧ (∀ e ∈ es.toList, e.born < clock) ∧ es.size = n

section
variable {P : Program} {kt : TypeId} {w w' : World} {m n : Nat} {F G : Value → Nat → Prop}
theorem Mp.lt (h : Mp P kt w m F n) : m < w.heap.size := by
  obtain ⟨es, c, hb, _⟩ := h.has
  exact (Array.getElem?_eq_some_iff.1 hb).1
theorem Mp.other (h : Mp P kt w m F n) (ho : w'.heap[m]? = w.heap[m]?) : Mp P kt w' m F n := by
  obtain ⟨es, c, hb, r⟩ := h.has
  exact ⟨es, c, ho.trans hb, r⟩
theorem Mp.drewN (h : Mp P kt w m F n) (k : Nat) : Mp P kt (w.drewN k) m F n := ⟨h.has⟩
theorem Mp.congr (h : Mp P kt w m F n) (e : ∀ v b, F v b ↔ G v b) : Mp P kt w m G n := by
  obtain ⟨es, c, h1, h2, h3, h4, h5⟩ := h.has
  exact ⟨es, c, h1, h2, fun x hx => by
    obtain ⟨b, e1, e2⟩ := h3 x hx
    exact ⟨b, e1, (e _ _).1 e2⟩, fun v b hv => h4 v b ((e _ _).2 hv), h5⟩
theorem mp_made (P : Program) (kt : TypeId) (w : World) : Mp P kt (w.alloc (.map #[] 0)) w.heap.size (fun _ _ => False) 0 :=
  ⟨#[], 0, (heap_alloc w _).1, by simp, by simp, by simp, by simp, by simp, rfl⟩
theorem ne_obj {x : Nat} {cs : Array Value} {t : TypeId} (h : Mp P kt w m F n) (hx : w.heap[x]? = some (.cells cs t)) : x ≠ m := by
  rintro rfl
  obtain ⟨es, c, hb, _⟩ := h.has
  rw [hb] at hx
  cases hx
/-- Where a key stands. -/
theorem Mp.find (h : Mp P kt w m F n) (K : Keyed P kt) {key : Value} {l : Lit} (hk : keyOf P kt key = some l) : ∃ es c, w.heap[m]? = some (.map es c) ∧
    (((∀ b, ¬ F key b) ∧ (Instr.findKey kt key es.toList).run P w = .ok none w ∧ (∀ e ∈ es.toList, e.key ≠ key)) ∨
      ∃ (j : Nat) (e : MapEntry) (b : Nat), F key b ∧ (Instr.findKey kt key es.toList).run P w = .ok (some (j, ptr b)) w ∧ es[j]? = some e ∧ e.key = key ∧ e.val = ptr b) := by
  obtain ⟨es, c, h1, h2, h3, h4, h5, h6, h7⟩ := h.has
  refine ⟨es, c, h1, ?_⟩
  rcases K.find w hk es.toList h2 with ⟨r, hn⟩ | ⟨j, e, r, hj, he⟩
  · left
    refine ⟨fun b hb => ?_, r, hn⟩
    obtain ⟨e, hm, e1, _⟩ := h4 key b hb
    exact hn e hm e1
  · right
    have hm : e ∈ es.toList := List.mem_of_getElem? hj
    obtain ⟨b, e1, e2⟩ := h3 e hm
    exact ⟨j, e, b, by rw [← he]; exact e2, by rw [← e1]; exact r, by simpa using hj, he, e1⟩
theorem Mp.det (h : Mp P kt w m F n) {v : Value} {b c : Nat} (h1 : F v b) (h2 : F v c) : b = c := by
  obtain ⟨es, cl, _, _, _, h4, h5, _⟩ := h.has
  obtain ⟨e, he, k1, v1⟩ := h4 v b h1
  obtain ⟨e', he', k2, v2⟩ := h4 v c h2
  have : e = e' := by
    obtain ⟨i, hi, rfl⟩ := List.getElem_of_mem he
    obtain ⟨j, hj, rfl⟩ := List.getElem_of_mem he'
    rcases Nat.lt_trichotomy i j with hl | rfl | hl
    · exact absurd (k1.trans k2.symm) (List.pairwise_iff_getElem.1 h5 i j hi hj hl)
    · rfl
    · exact absurd (k2.trans k1.symm) (List.pairwise_iff_getElem.1 h5 j i hj hi hl)
  subst this
  rw [v1] at v2
  simpa using v2

variable {t e : TypeId} {key : Value} {l : Lit}
theorem Mp.look_hit (h : Mp P kt w m F n) (K : Keyed P kt) (ht : P.underlying t = some (.map kt e)) (hk : keyOf P kt key = some l) {b : Nat} (hb : F key b) :
    (Instr.lookup t (.map (some m)) key false).run P w = .ok (ptr b) w := by
  obtain ⟨es, c, h1, hh⟩ := h.find K hk
  rcases hh with ⟨hn, _⟩ | ⟨j, e0, b', hb', r, _⟩
  · exact absurd hb (hn b)
  · obtain rfl := h.det hb hb'
    simp [Instr.lookup, run_underlying ht, MapKept.run_getObj_map h1, K.check w _ hk, r, Result.andThen]
theorem Mp.look_miss (h : Mp P kt w m F n) (K : Keyed P kt) (ht : P.underlying t = some (.map kt e)) (hz : ∀ w : World, (zeroValue e).run P w = .ok (.pointer none) w) (hk : keyOf P kt key = some l) (hb : ∀ b, ¬ F key b) :
    (Instr.lookup t (.map (some m)) key false).run P w = .ok (.pointer none) w := by
  obtain ⟨es, c, h1, hh⟩ := h.find K hk
  rcases hh with ⟨_, r, _⟩ | ⟨j, e0, b', hb', _⟩
  · simp [Instr.lookup, run_underlying ht, MapKept.run_getObj_map h1, K.check w _ hk, r, hz, Result.andThen]
  · exact absurd hb' (hb b')
theorem Mp.count (h : Mp P kt w m F n) (ht : P.underlying t = some (.map kt e)) (ty : TypeId) : (Builtin.len_ #[t] ty #[.map (some m)]).run P w = .ok (.int .i64 (n : Int)) w := by
  obtain ⟨es, c, h1, _, _, _, _, _, h7⟩ := h.has
  simp [Builtin.len_, run_underlying ht, MapKept.run_getObj_map h1, h7, Result.andThen, goInt]
/-- A key comes: first its entry, then what it has. -/
theorem Mp.enter (h : Mp P kt w m F n) (K : Keyed P kt) (ht : P.underlying t = some (.map kt e)) (hz : ∀ w : World, (zeroValue e).run P w = .ok (.pointer none) w) (hk : keyOf P kt key = some l) (hb : ∀ b, ¬ F key b) (b : Nat) :
    ∃ (o1 o2 : Obj) (c : Nat), (Instr.mapEntry t (.map (some m)) key).run P w = .ok (.tuple #[.pointer none, .int .i64 (c : Int)]) (putB w m o1) ∧
      (∀ w2 : World, w2.heap[m]? = some o1 → (Instr.entryStore t (.map (some m)) (.int .i64 (c : Int)) (ptr b)).run P w2 = .ok () (putB w2 m o2)) ∧
      ∀ w3 : World, w3.heap[m]? = some o2 → Mp P kt w3 m (fun v x => F v x ∨ v = key ∧ x = b) (n + 1) := by
  obtain ⟨es, c, h1, h2, h3, h4, h5, h6, h7⟩ := h.has
  have hn : (Instr.findKey kt key es.toList).run P w = .ok none w ∧ ∀ e ∈ es.toList, e.key ≠ key := by
    rcases K.find w hk es.toList h2 with r | ⟨j, e0, _, hj, he⟩
    · exact r
    · obtain ⟨b', _, e2⟩ := h3 e0 (List.mem_of_getElem? hj)
      exact absurd (he ▸ e2) (hb b')
  refine ⟨.map (es.push { key := key, val := .pointer none, born := c }) (c + 1), .map (es.push { key := key, val := ptr b, born := c }) (c + 1), c, ?_, fun w2 hw2 => ?_, fun w3 hw3 => ⟨_, _, hw3, fun x hx => ?_, fun x hx => ?_, fun v x hv => ?_, ?_, fun x hx => ?_, ?_⟩⟩
  · simp [Instr.mapEntry, run_underlying ht, MapKept.run_getObj_map h1, K.check w _ hk, hn.1, hz, MapKept.run_setObj_map _ h1, Result.andThen, goInt, putB]
  · have hf : (es.push { key := key, val := .pointer none, born := c }).findIdx? (fun e => (e.born : Int) == (c : Int)) = some es.size := by
      rw [Array.findIdx?_push]
      have : es.findIdx? (fun e => (e.born : Int) == (c : Int)) = none := by
        rw [Array.findIdx?_eq_none_iff]
        intro x hx
        have := h6 x (by simpa using hx)
        simp
        omega
      rw [this]
      simp
    have hm : (es.push { key := key, val := .pointer none, born := c }).modify es.size (fun e => { e with val := ptr b }) = es.push { key := key, val := ptr b, born := c } := by
      apply Array.ext
      · simp
      · intro i hi1 hi2
        simp only [Array.getElem_modify, Array.getElem_push]
        split
        · rename_i h0; subst h0; simp
        · rename_i h0
          have : i < es.size := by simp at hi2; omega
          simp [this]
    have hi : (asInt (.int .i64 (c : Int))).run P w2 = .ok (c : Int) w2 := rfl
    simp only [Instr.entryStore, Sem.run_bind, MapKept.run_getObj_map hw2, Result.andThen, hi, hf, MapKept.run_setObj_map _ hw2, hm, putB]
  · rw [Array.toList_push, List.mem_append] at hx
    rcases hx with hx | hx
    · exact h2 x hx
    · obtain rfl := List.mem_singleton.1 hx
      exact ⟨l, hk⟩
  · rw [Array.toList_push, List.mem_append] at hx
    rcases hx with hx | hx
    · obtain ⟨b', e1, e2⟩ := h3 x hx
      exact ⟨b', e1, .inl e2⟩
    · obtain rfl := List.mem_singleton.1 hx
      exact ⟨b, rfl, .inr ⟨rfl, rfl⟩⟩
  · rw [Array.toList_push]
    rcases hv with hv | ⟨rfl, rfl⟩
    · obtain ⟨e0, he, e1⟩ := h4 v x hv
      exact ⟨e0, List.mem_append_left _ he, e1⟩
    · exact ⟨_, List.mem_append_right _ (List.mem_singleton.2 rfl), rfl, rfl⟩
  · rw [Array.toList_push, List.pairwise_append]
    exact ⟨h5, by simp, fun x hx y hy => by
      obtain rfl := List.mem_singleton.1 hy
      exact hn.2 x hx⟩
  · rw [Array.toList_push, List.mem_append] at hx
    rcases hx with hx | hx
    · exact Nat.lt_succ_of_lt (h6 x hx)
    · obtain rfl := List.mem_singleton.1 hx
      exact Nat.lt_succ_self _
  · simp [h7]
/-- A key goes. -/
theorem Mp.leave (h : Mp P kt w m F n) (K : Keyed P kt) (ht : P.underlying t = some (.map kt e)) (hk : keyOf P kt key = some l) {b : Nat} (hb : F key b) (ty : TypeId) :
    ∃ o, (Builtin.delete_ #[t, kt] ty #[.map (some m), key]).run P w = .ok (.tuple #[]) (putB w m o) ∧ ∀ w3 : World, w3.heap[m]? = some o → Mp P kt w3 m (fun v x => F v x ∧ v ≠ key) (n - 1) := by
  obtain ⟨es, c, h1, h2, h3, h4, h5, h6, h7⟩ := h.has
  obtain ⟨j, e0, r, hj, he⟩ : ∃ j e0, (Instr.findKey kt key es.toList).run P w = .ok (some (j, e0.val)) w ∧ es.toList[j]? = some e0 ∧ e0.key = key := by
    rcases K.find w hk es.toList h2 with ⟨_, hn⟩ | ⟨j, e0, r, hj, he⟩
    · obtain ⟨e0, he, e1, _⟩ := h4 key b hb
      exact absurd e1 (hn e0 he)
    · exact ⟨j, e0, r, hj, he⟩
  obtain ⟨hlt, hje⟩ := List.getElem?_eq_some_iff.1 hj
  have hlt' : j < es.size := by simpa using hlt
  have hes : (es.eraseIdxIfInBounds j).toList = es.toList.eraseIdx j := by
    simp [Array.eraseIdxIfInBounds, hlt']
  have hmem : ∀ x, x ∈ es.toList.eraseIdx j → x ∈ es.toList ∧ x.key ≠ key := by
    intro x hx
    refine ⟨List.mem_of_mem_eraseIdx hx, fun ek => ?_⟩
    obtain ⟨i, hi⟩ := List.getElem?_of_mem hx
    rw [List.getElem?_eraseIdx] at hi
    split at hi
    · rename_i hij
      obtain ⟨hi1, hi2⟩ := List.getElem?_eq_some_iff.1 hi
      exact List.pairwise_iff_getElem.1 h5 i j hi1 hlt hij (by rw [hi2, hje]; exact ek.trans he.symm)
    · rename_i hij
      obtain ⟨hi1, hi2⟩ := List.getElem?_eq_some_iff.1 hi
      exact List.pairwise_iff_getElem.1 h5 j (i + 1) hlt hi1 (by omega) (by rw [hi2, hje]; exact he.trans ek.symm)
  refine ⟨.map (es.eraseIdxIfInBounds j) c, ?_, fun w3 hw3 => ⟨_, _, hw3, ?_⟩⟩
  · simp [Builtin.delete_, run_underlying ht, MapKept.run_getObj_map h1, K.check w _ hk, r, MapKept.run_setObj_map _ h1, Result.andThen, putB]
  · rw [hes]
    refine ⟨fun x hx => h2 x (hmem x hx).1, fun x hx => ?_, fun v x hv => ?_, h5.sublist (List.eraseIdx_sublist _ _), fun x hx => h6 x (hmem x hx).1, ?_⟩
    · obtain ⟨b', e1, e2⟩ := h3 x (hmem x hx).1
      exact ⟨b', e1, e2, (hmem x hx).2⟩
    · obtain ⟨e1, hm1, k1, v1⟩ := h4 v x hv.1
      refine ⟨e1, ?_, k1, v1⟩
      obtain ⟨i, hi, rfl⟩ := List.getElem_of_mem hm1
      have hne : i ≠ j := fun e => hv.2 (by subst e; rw [← k1, hje]; exact he)
      rw [List.mem_eraseIdx_iff_getElem]
      exact ⟨i, hi, hne, rfl⟩
    · rw [← h7]
      simp [Array.eraseIdxIfInBounds, hlt']
end
end Go.Proofs.Ytiechmcfafhfaaa
