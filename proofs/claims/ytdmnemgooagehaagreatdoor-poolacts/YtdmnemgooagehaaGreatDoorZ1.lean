/- What PoolZeros wants besides: how many slabs there are after so many gets, and places apart (no program). -/
import Derived.Test.YtdmnemgooagehaaGreatDoorV1
namespace Go.Proofs.YtdmnemgooagehaaGreatDoor
open Go.RowKit Go.Maps

theorem sub_len {l l' : List Nat} (hn : l.Nodup) (h : ∀ x, x ∈ l → x ∈ l') : l.length ≤ l'.length := hn.length_le_of_subset (fun x hx => h x hx)
/-- How many slabs a class has. -/
def slN (P : Pp) (v : Pv) (k : Nat) : Nat := (pagesOf (v.U k) (many k) (2 ^ P.K)).length
theorem flat_len {f : Nat → List Nat} {m : Nat} : ∀ {l : List Nat}, (∀ p, p ∈ l → (f p).length = m) → (l.flatMap f).length = l.length * m
  | [], _ => by simp
  | p :: l, h => by
    rw [List.flatMap_cons, List.length_append, h p List.mem_cons_self, flat_len (fun q hq => h q (List.mem_cons_of_mem _ hq)), List.length_cons, Nat.add_mul, Nat.one_mul]
    omega
theorem full_len {P : Pp} {v : Pv} {k : Nat} (h : ∀ q, ¬ Opened (v.U k) (many k) q) : lenK P v k = slN P v k * many k := by
  unfold lenK slN usedOf
  refine flat_len (fun p hp => ?_)
  rw [List.length_map, ones_len]
  have hs := (pagesOf_mem.1 hp).2
  refine full_iff.2 (fun i hi => ?_)
  cases e : v.U k p i with
  | true => rfl
  | false => exact absurd ⟨hs, i, hi, e⟩ (h p)
theorem pagesOf_up (U : Pls) (m n : Nat) : (pagesOf U m n).Nodup := by unfold pagesOf; exact ones_nodup _ _
theorem slN_got {P : Pp} {v : Pv} {f : Int} {k q i : Nat} {B' : St} {U' : Pls} (g : GotIt P v f k q i B' U') :
    (slN P (gotV v f k q i B' U') k = slN P v k ∨ (slN P (gotV v f k q i B' U') k = slN P v k + 1 ∧ ∀ r, ¬ Opened (v.U k) (many k) r)) ∧ ∀ j, j ≠ k → slN P (gotV v f k q i B' U') j = slN P v j := by
  have eU : (gotV v f k q i B' U').U k = setU (v.U k) q i true := by show now v.U k U' k = _; rw [now_at, g.tk.now]
  have hs : ∀ r, Slb (setU (v.U k) q i true) (many k) r ↔ Slb (v.U k) (many k) r ∨ r = q := fun r => by
    by_cases e : r = q
    · subst e; exact ⟨fun _ => .inr rfl, fun _ => slb_on g.tk.lt⟩
    · rw [slb_other true e]; exact ⟨.inl, fun h => h.resolve_right e⟩
  constructor
  · by_cases h : Slb (v.U k) (many k) q
    · left
      unfold slN
      rw [eU]
      refine ((List.perm_ext_iff_of_nodup (pagesOf_up _ _ _) (pagesOf_up _ _ _)).2 (fun r => ?_)).length_eq
      rw [pagesOf_mem, pagesOf_mem, hs r]
      exact ⟨fun ⟨a, b⟩ => ⟨a, b.elim id (fun e => e ▸ h)⟩, fun ⟨a, b⟩ => ⟨a, .inl b⟩⟩
    · right
      refine ⟨?_, ?_⟩
      · unfold slN
        rw [eU]
        refine len_add (x := q) (pagesOf_up _ _ _) (pagesOf_up _ _ _) (fun hq => h (pagesOf_mem.1 hq).2) (fun r => ?_)
        rw [pagesOf_mem, pagesOf_mem, hs r]
        exact ⟨fun ⟨a, b⟩ => b.elim (fun b => .inl ⟨a, b⟩) .inr, fun e => e.elim (fun ⟨a, b⟩ => ⟨a, .inl b⟩) (fun e => ⟨e ▸ g.qN, .inr e⟩)⟩
      · rcases g.cm with ⟨h1, _⟩ | ⟨_, h2, _⟩
        · exact absurd h1 h
        · exact h2
  · intro j hj
    unfold slN
    rw [show (gotV v f k q i B' U').U j = v.U j from now_ne _ _ hj]
theorem slN_put {P : Pp} {v : Pv} {f : Int} {k q i : Nat} {B' : St} (j : Nat) : slN P (putV v f k q i B') j ≤ slN P v j := by
  by_cases e : j = k
  · subst e
    unfold slN
    rw [show (putV v f j q i B').U j = setU (v.U j) q i false from now_at _ _ _]
    refine sub_len (pagesOf_up _ _ _) (fun r hr => ?_)
    rw [pagesOf_mem] at hr ⊢
    exact ⟨hr.1, slb_off hr.2⟩
  · unfold slN
    rw [show (putV v f k q i B').U j = v.U j from now_ne _ _ e]
    exact Nat.le_refl _

/-- So many gets were for each class. -/
structure Gh (P : Pp) (v : Pv) (G : Nat → Nat) (i : Nat) : Prop where
  len : ∀ k, 1 ≤ k → k ≤ 7 → lenK P v k ≤ G k
  slab : ∀ k, 1 ≤ k → k ≤ 7 → 3 * slN P v k ≤ G k + 2
  all : sumTo G 7 ≤ i
theorem Gh.start (P : Pp) (K N : Nat) : Gh P (v0 K N) (fun _ => 0) 0 := by
  refine ⟨fun k _ _ => ?_, fun k _ _ => ?_, by decide⟩
  · show (usedOf none_ _ _ _).length ≤ 0
    rw [usedOf_none]; simp
  · have : pagesOf none_ (many k) (2 ^ P.K) = [] := List.eq_nil_iff_forall_not_mem.2 (fun r hr => none_slb _ _ (pagesOf_mem.1 hr).2)
    show 3 * (pagesOf none_ _ _).length ≤ 2
    rw [this]; simp
theorem Gh.more {P : Pp} {v : Pv} {G : Nat → Nat} {i : Nat} (h : Gh P v G i) : Gh P v G (i + 1) := ⟨h.len, h.slab, by have := h.all; omega⟩
theorem Gh.got {P : Pp} {v : Pv} {G : Nat → Nat} {n : Nat} {f : Int} {k q i : Nat} {B' : St} {U' : Pls} (h : Gh P v G n) (g : GotIt P v f k q i B' U') : Gh P (gotV v f k q i B' U') (now G k (G k + 1)) (n + 1) := by
  obtain ⟨_, hl, hl2⟩ := costs_got g
  obtain ⟨hs, hs2⟩ := slN_got g
  refine ⟨fun j h1 h7 => ?_, fun j h1 h7 => ?_, ?_⟩
  · by_cases e : j = k
    · subst e; rw [now_at, hl]; have := h.len j h1 h7; omega
    · rw [now_ne _ _ e, hl2 j e]; exact h.len j h1 h7
  · by_cases e : j = k
    · subst e; rw [now_at]
      have h2 := h.slab j h1 h7
      rcases hs with hs | ⟨hs, hno⟩
      · rw [hs]; omega
      · have e1 := full_len (P := P) hno
        have e2 := h.len j h1 h7
        have e3 := (many_in h1 h7).1
        have e4 : slN P v j * 3 ≤ slN P v j * many j := Nat.mul_le_mul_left _ e3
        rw [hs]; omega
    · rw [now_ne _ _ e, hs2 j e]; exact h.slab j h1 h7
  · rw [sumTo_one (f := now G k (G k + 1)) (g := G) (k := k) (d := 1) (now_at _ _ _) (fun j hj => now_ne _ _ hj) g.k1 g.k7]
    have := h.all; omega
theorem Gh.put {P : Pp} {v : Pv} {G : Nat → Nat} {n : Nat} {f x : Int} {k q i : Nat} {B' : St} (h : Gh P v G n) (g : PutIt v f x k q i B') (hq : q < 2 ^ P.K) : Gh P (putV v f k q i B') G n := by
  obtain ⟨_, hl, hl2⟩ := costs_put (P := P) g hq
  refine ⟨fun j h1 h7 => ?_, fun j h1 h7 => ?_, h.all⟩
  · by_cases e : j = k
    · subst e; have := h.len j h1 h7; omega
    · rw [← hl2 j e]; exact h.len j h1 h7
  · have := slN_put (P := P) (v := v) (f := f) (k := k) (q := q) (i := i) (B' := B') j
    have := h.slab j h1 h7
    omega
theorem cnt_or {f : Nat → Bool} {g : Nat → Nat → Bool} (h : ∀ p, f p = true → ∃ k, 1 ≤ k ∧ k ≤ 7 ∧ g k p = true) : ∀ n, cnt f n ≤ sumTo (fun k => cnt (g k) n) 7
  | 0 => Nat.zero_le _
  | n + 1 => by
    have ih := cnt_or h n
    have e : sumTo (fun k => cnt (g k) (n + 1)) 7 = sumTo (fun k => cnt (g k) n) 7 + sumTo (fun k => (g k n).toNat) 7 := by
      simp only [sumTo, cnt]; omega
    rw [e]
    show cnt f n + (f n).toNat ≤ _
    cases e2 : f n with
    | false => simp; omega
    | true =>
      obtain ⟨k, h1, h7, hg⟩ := h n e2
      have := sumTo_at (f := fun k => (g k n).toNat) h1 h7
      simp only [hg] at this
      simp at this ⊢
      omega
theorem Gh.room {P : Pp} {v : Pv} {G : Nat → Nat} {n : Nat} (h : Gh P v G n) (hE : ExactP v) (hK : P.K = 6) (hi : Inv P.K v.B ∧ NoHeld v.B) (hn : n ≤ 100) : ¬ ∀ a j, v.B a j ≠ .free := fun hno => by
  have e1 := hE.pages hi.1 hi.2
  have e2 : pages P.K (isK v.B .free) (P.K + 1) = 0 := pages_zero (fun k i _ => by unfold isK; simp; exact hno k i)
  have e3 : cnt (fun p => decide (v.B 0 p = .used)) (2 ^ P.K) ≤ sumTo (fun k => slN P v k) 7 := by
    refine Nat.le_trans (cnt_or (g := fun k p => decide (0 < cnt (v.U k p) (many k))) (fun p hp => ?_) _) (Nat.le_of_eq (sumTo_congr (fun k _ _ => ?_)))
    · obtain ⟨_, k, hk, hs⟩ := (hE 0 p).1 (by simpa using hp)
      exact ⟨k, hk.1, hk.2, by simpa using (slb_cnt _ _ _).1 hs⟩
    · unfold slN pagesOf; rw [ones_len]
  have e4 : 3 * sumTo (fun k => slN P v k) 7 ≤ sumTo G 7 + 14 := by
    have a1 := h.slab 1 (by decide) (by decide)
    have a2 := h.slab 2 (by decide) (by decide)
    have a3 := h.slab 3 (by decide) (by decide)
    have a4 := h.slab 4 (by decide) (by decide)
    have a5 := h.slab 5 (by decide) (by decide)
    have a6 := h.slab 6 (by decide) (by decide)
    have a7 := h.slab 7 (by decide) (by decide)
    simp only [sumTo, Nat.zero_add, Nat.reduceAdd]
    omega
  have e5 := h.all
  rw [hK] at e1 e2 e3
  have e6 : (2 : Nat) ^ 6 = 64 := by decide
  omega
theorem Gh.costs_le {P : Pp} {v : Pv} {G : Nat → Nat} {n : Nat} (h : Gh P v G n) : costs P v ≤ 256 * n := by
  have b : ∀ k, 1 ≤ k → k ≤ 7 → lenK P v k * cost k ≤ 256 * G k := fun k h1 h7 => by
    have e1 := h.len k h1 h7
    have e2 := (cost_in h1 h7).2.1
    exact Nat.le_trans (Nat.mul_le_mul e1 e2) (Nat.le_of_eq (Nat.mul_comm _ _))
  have a1 := b 1 (by decide) (by decide)
  have a2 := b 2 (by decide) (by decide)
  have a3 := b 3 (by decide) (by decide)
  have a4 := b 4 (by decide) (by decide)
  have a5 := b 5 (by decide) (by decide)
  have a6 := b 6 (by decide) (by decide)
  have a7 := b 7 (by decide) (by decide)
  have e5 := h.all
  unfold costs
  simp only [sumTo, Nat.zero_add, Nat.reduceAdd] at *
  omega

/-- Memory of a class: its class, its page, its place. -/
abbrev Trip := Nat × Nat × Nat
def plc (t : Trip) : Nat := place (cost t.1) t.2.1 t.2.2
/-- What is had: each once, each used. -/
structure Had (v : Pv) (l : List Trip) : Prop where
  nd : l.Nodup
  inn : ∀ t, t ∈ l → 1 ≤ t.1 ∧ t.1 ≤ 7 ∧ t.2.2 < many t.1 ∧ v.U t.1 t.2.1 t.2.2 = true
theorem Had.got {P : Pp} {v : Pv} {l : List Trip} {f : Int} {k q i : Nat} {B' : St} {U' : Pls} (h : Had v l) (g : GotIt P v f k q i B' U') : Had (gotV v f k q i B' U') (l ++ [(k, q, i)]) := by
  have hnew : (k, q, i) ∉ l := fun hm => by
    have := (h.inn _ hm).2.2.2
    rw [g.tk.free] at this; cases this
  have eU : ∀ j r s, v.U j r s = true → now v.U k U' j r s = true := fun j r s hu => by
    by_cases e : j = k
    · subst e; rw [now_at, g.tk.now]
      by_cases e2 : r = q ∧ s = i
      · rw [e2.1, e2.2]; exact setU_same _ _ _ _
      · rw [setU_ne _ _ e2]; exact hu
    · rw [now_ne _ _ e]; exact hu
  refine ⟨?_, fun t ht => ?_⟩
  · rw [List.nodup_append]
    exact ⟨h.nd, by simp, fun a ha b hb => by simp at hb; subst hb; exact fun e => hnew (e ▸ ha)⟩
  · rcases List.mem_append.1 ht with ht | ht
    · obtain ⟨a, b, c, d⟩ := h.inn t ht
      exact ⟨a, b, c, eU _ _ _ d⟩
    · simp at ht
      subst ht
      exact ⟨g.k1, g.k7, g.tk.lt, by show now v.U k U' k q i = true; rw [now_at, g.tk.now]; exact setU_same _ _ _ _⟩
theorem Had.put {v : Pv} {l : List Trip} {f : Int} {k q i n : Nat} {B' : St} (h : Had v l) (hn : l[n]? = some (k, q, i)) : Had (putV v f k q i B') (l.eraseIdx n) := by
  have hsub := List.eraseIdx_sublist l n
  refine ⟨h.nd.sublist hsub, fun t ht => ?_⟩
  obtain ⟨a, b, c, d⟩ := h.inn t (hsub.subset ht)
  refine ⟨a, b, c, ?_⟩
  have hne : t ≠ (k, q, i) := by
    rintro rfl
    obtain ⟨hlt, he⟩ := List.getElem?_eq_some_iff.1 hn
    rw [List.eraseIdx_eq_take_drop_succ] at ht
    have hd : (l.take n ++ (k, q, i) :: l.drop (n + 1)).Nodup := by
      have e : l.take n ++ (k, q, i) :: l.drop (n + 1) = l := by rw [← he, ← List.drop_eq_getElem_cons hlt, List.take_append_drop]
      rw [e]; exact h.nd
    rw [List.nodup_append] at hd
    rcases List.mem_append.1 ht with ht | ht
    · exact hd.2.2 _ ht _ List.mem_cons_self rfl
    · exact (List.nodup_cons.1 hd.2.1).1 ht
  show now v.U k (setU (v.U k) q i false) t.1 t.2.1 t.2.2 = true
  by_cases e : t.1 = k
  · rw [e, now_at, setU_ne]
    · rw [← e]; exact d
    · rintro ⟨e1, e2⟩
      exact hne (by obtain ⟨t1, t2, t3⟩ := t; simp at e e1 e2 ⊢; exact ⟨e, e1, e2⟩)
  · rw [now_ne _ _ e]; exact d
/-- Two that are had don't overlap. -/
theorem trips_apart {w0 w : World} {G : Nat → Prop} {P : Pp} {v : Pv} {s t : Trip} (hp : Pw w0 w G P v) (hs : 1 ≤ s.1 ∧ s.1 ≤ 7 ∧ s.2.2 < many s.1 ∧ v.U s.1 s.2.1 s.2.2 = true) (ht : 1 ≤ t.1 ∧ t.1 ≤ 7 ∧ t.2.2 < many t.1 ∧ v.U t.1 t.2.1 t.2.2 = true) (hne : s ≠ t) (h1 : plc s < plc t + cost t.1) (h2 : plc t < plc s + cost s.1) : False := by
  obtain ⟨k, q, i⟩ := s
  obtain ⟨k', q', i'⟩ := t
  have m1 := many_in hs.1 hs.2.1
  have m2 := many_in ht.1 ht.2.1
  have c1 := cost_in hs.1 hs.2.1
  have c2 := cost_in ht.1 ht.2.1
  obtain ⟨z, z1, z2⟩ : ∃ z, InPlace (cost k) q i z ∧ InPlace (cost k') q' i' z := by
    unfold plc at h1 h2
    refine ⟨max (place (cost k) q i) (place (cost k') q' i'), ⟨Nat.le_max_left _ _, ?_⟩, ⟨Nat.le_max_right _ _, ?_⟩⟩
    · simp only at h1 h2 c1 c2 ⊢; omega
    · simp only at h1 h2 c1 c2 ⊢; omega
  have e := place_place m1.2.2 m2.2.2 hs.2.2.1 ht.2.2.1 z1 z2
  have e' : q = q' := e
  subst e'
  by_cases hk : k = k'
  · subst hk
    have := place_same m1.2.2 hs.2.2.1 ht.2.2.1 z1 z2
    have e3 : i = i' := this
    subst e3
    exact hne rfl
  · exact hp.apt hs.1 hs.2.1 ht.1 ht.2.1 hk q ⟨⟨i, hs.2.2.1, hs.2.2.2⟩, ⟨i', ht.2.2.1, ht.2.2.2⟩⟩
end Go.Proofs.YtdmnemgooagehaaGreatDoor
